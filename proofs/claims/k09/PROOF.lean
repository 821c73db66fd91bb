import PyProof.Rows.All
import Wide.All
import OpenK.AllK
import Wide.FinOn
import PyProof.EqAt
import PyProof.EqKinds
import PyProof.TupleCall
import PyProof.ReprRoads
import HandS.Base
import HandS.Call
import HandS.List
import HandS.Dict
import PyProof.ReprBulk
import PyProof.ReprRoom
import PyProof.FitsInt
import HandS.ForMost
import HandS.Wide
import HandS.Style
import HandS.Conv
import HandS.IsInst
import HandS.Gcd
import HandS.Flow
import HandS.TupAny
import HandS.Evl
import HandS.Words
import HandS.RaiseMore
import KE.KSuper
import KE.KExcInit
import KE.KIsAll
import KE.KExcIs
import HandS.Exc
import HandS.ExcSuper
import HandS.ExcIs
import HandS.TryMany
import KE.KRevSl
import HandS.WordsExc
import HandS.Comp
import HandS.Text
import HandS.Iter
import HandS.Zip
import HandS.TupSets
import PyProof.SetRoads
import HandS.SetBool
import HandS.SetKeys
import HandS.TupLe
import PyProof.MinMaxWalk
import PyProof.WalkInts
import PyProof.Rows.SetFrom
import HandS.Strs
import KE.GoesMore
import KE.KMathG
import HandS.TupMul
import HandS.ExcOwn
import HandS.StrMore
import HandS.FStr
import KE.GoesEnumKw
import KE.GoesNew
import HandS.NoneIn
import KE.KIntText
import HandS.Ends
import HandS.EndBits
import PySem.Challenge.RW_eyeorder_k09_texts_of_plans_changed
set_option Elab.async false
set_option linter.all false
set_option exponentiation.threshold 3000
set_option maxRecDepth 100000
set_option maxHeartbeats 4000000

namespace Ey
open PySem PySem.Spec PyProof.Rows L2

mutual
/-- data that stands in a heap: what repr needs to know of it -/
inductive Rdd (h : Heap) : Value → PyData → Prop
  | non : Rdd h .none .none
  | bl (b : Bool) : Rdd h (.bool b) (.bool b)
  | int (i : Int) (t : Tok) : Rdd h (.int i t) (.int i)
  | str (x : Str) (t : Tok) : Rdd h (.str x t) (.str x)
  | lst {a : Addr} {o : Obj} {vs : Array Value} {n : Nat} {xs : List PyData} : h.get? a = some o → o.cls = .type "list" → o.data = .seq vs n → RddAll h vs.toList xs → Rdd h (.ref a) (.list xs)
  | tup {a : Addr} {o : Obj} {vs : Array Value} {n : Nat} {xs : List PyData} : h.get? a = some o → o.cls = .type "tuple" → o.data = .seq vs n → RddAll h vs.toList xs → Rdd h (.ref a) (.tuple xs)
  | dic {a : Addr} {o : Obj} {es : Array DictEntry} {n : Nat} {ks : List (PyData × PyData)} : h.get? a = some o → o.cls = .type "dict" → o.data = .dict es n → (a == sysModules) = false →
      RddAll h (es.toList.map (·.key)) (ks.map (·.1)) → RddAll h (es.toList.map (·.val)) (ks.map (·.2)) → Rdd h (.ref a) (.dict ks)
inductive RddAll (h : Heap) : List Value → List PyData → Prop
  | nil : RddAll h [] []
  | cons {v : Value} {vs : List Value} {d : PyData} {ds : List PyData} : Rdd h v d → RddAll h vs ds → RddAll h (v :: vs) (d :: ds)
end

section
variable {h : Heap}
mutual
theorem Rdd.reads : ∀ {v : Value} {d : PyData}, Rdd h v d → ∃ as, Reads h v d as
  | _, _, .non => ⟨_, .none⟩
  | _, _, .bl b => ⟨_, .bool b⟩
  | _, _, .int i t => ⟨_, .int i t⟩
  | _, _, .str x t => ⟨_, .str x t⟩
  | _, _, .lst e1 e2 e3 e4 => let ⟨_, r⟩ := e4.reads; ⟨_, .list e1 e2 e3 r⟩
  | _, _, .tup e1 e2 e3 e4 => let ⟨_, r⟩ := e4.reads; ⟨_, .tuple e1 e2 e3 r⟩
  | _, _, .dic e1 e2 e3 _ e4 e5 => let ⟨_, r⟩ := e4.reads; let ⟨_, q⟩ := e5.reads; ⟨_, .dict e1 e2 e3 r q⟩
theorem RddAll.reads : ∀ {vs : List Value} {ds : List PyData}, RddAll h vs ds → ∃ as, ReadsAll h vs ds as
  | _, _, .nil => ⟨_, .nil⟩
  | _, _, .cons a b => let ⟨_, r⟩ := a.reads; let ⟨_, q⟩ := b.reads; ⟨_, .cons r q⟩
end
end

section
variable {prog : Program} {w : World} {h₀ : Heap}
mutual
theorem Rdd.k : ∀ {v : Value} {d : PyData}, Rdd h₀ v d → d.showable = true → d.shown.length ≤ sizeLine → ∃ bs, ReadAtMost h₀ d.depth bs ∧ ReprK prog w bs h₀ d.depth v d.shown
  | _, _, .non, _, _ => ⟨[], (fun _ q => nomatch q), by simp only [PyData.shown]; exact ReprK.of_is ReprIs.none [] h₀ _⟩
  | _, _, .bl b, _, _ => ⟨[], (fun _ q => nomatch q), by simp only [PyData.shown]; exact ReprK.of_is (ReprIs.bool b) [] h₀ _⟩
  | _, _, .int i t, hs, _ => ⟨[], (fun _ q => nomatch q), by simp only [PyData.shown]; exact ReprK.of_is (ReprIs.int t (by simpa [PyData.showable] using hs)) [] h₀ _⟩
  | _, _, .str x t, _, hz => ⟨[], (fun _ q => nomatch q), by simp only [PyData.shown]; exact ReprK.of_is (ReprIs.str x t (by simpa only [PyData.shown] using hz)) [] h₀ _⟩
  | _, _, .lst (a := a) (vs := vs) (xs := xs) e1 e2 e3 e4, hs, hz => by
    have z : (listText (PyData.shownAll xs)).length ≤ sizeLine := by simpa only [PyData.shown] using hz
    obtain ⟨bs, hb, hk⟩ := RddAll.k e4 (by simpa [PyData.showable] using hs) (fun t ht => Nat.le_trans (listText_mem_le ht) z)
    obtain ⟨_, r⟩ := Rdd.reads (Rdd.lst e1 e2 e3 e4)
    have na : a ∉ bs := not_mem_of_deeper r (by simp only [PyData.depth]; omega) hb
    refine ⟨a :: bs, ReadAtMost.cons r (by simp only [PyData.depth]; omega) hb, ?_⟩
    simp only [PyData.depth, PyData.shown]
    obtain ⟨l⟩ := vs
    cases l with
    | nil =>
      have e5 : RddAll h₀ [] xs := e4
      cases e5
      simp only [PyData.shownAll, listText_nil]
      exact ReprK.listEmpty e1 e2 e3
    | cons x l => exact ReprK.list e1 e2 e3 na (by simpa using hk.length_eq) (fun i y e => hk.item i y (by simpa using e))
  | _, _, .tup (a := a) (xs := xs) e1 e2 e3 e4, hs, hz => by
    have z : (tupleText (PyData.shownAll xs)).length ≤ sizeLine := by simpa only [PyData.shown] using hz
    obtain ⟨bs, hb, hk⟩ := RddAll.k e4 (by simpa [PyData.showable] using hs) (fun t ht => Nat.le_trans (tupleText_mem_le ht) z)
    obtain ⟨_, r⟩ := Rdd.reads (Rdd.tup e1 e2 e3 e4)
    have na : a ∉ bs := not_mem_of_deeper r (by simp only [PyData.depth]; omega) hb
    refine ⟨a :: bs, ReadAtMost.cons r (by simp only [PyData.depth]; omega) hb, ?_⟩
    simp only [PyData.depth, PyData.shown]
    exact ReprK.tuple e1 e2 e3 na hk
  | _, _, .dic (a := a) (es := es) (ks := ks) e1 e2 e3 e6 e4 e5, hs, hz => by
    have z : (dictText (PyData.shownKv ks)).length ≤ sizeLine := by simpa only [PyData.shown] using hz
    obtain ⟨s1, s2⟩ := PyData.showableKv_split ks (by simpa [PyData.showable] using hs)
    obtain ⟨b1, hb1, k1⟩ := RddAll.k e4 s1 (fun t ht => let ⟨p, hp, hl⟩ := PyData.shownKv_key_le ks t ht; Nat.le_trans hl (Nat.le_trans (dictText_mem_le hp) z))
    obtain ⟨b2, hb2, k2⟩ := RddAll.k e5 s2 (fun t ht => let ⟨p, hp, hl⟩ := PyData.shownKv_val_le ks t ht; Nat.le_trans hl (Nat.le_trans (dictText_mem_le hp) z))
    obtain ⟨_, r⟩ := Rdd.reads (Rdd.dic e1 e2 e3 e6 e4 e5)
    have hb : ReadAtMost h₀ (PyData.depthKv ks) (b1 ++ b2) := (hb1.mono (PyData.depthAll_keys_le ks)).append (hb2.mono (PyData.depthAll_vals_le ks))
    have na : a ∉ b1 ++ b2 := not_mem_of_deeper r (by simp only [PyData.depth]; omega) hb
    refine ⟨a :: (b1 ++ b2), ReadAtMost.cons r (by simp only [PyData.depth]; omega) hb, ?_⟩
    simp only [PyData.depth, PyData.shown, PyData.shownKv_eq]
    exact ReprK.dict e1 e2 e3 e6 na (ReprEntriesK.of_two es.toList _ _
      (k1.more_le (fun b hm => List.mem_append_left _ hm) (PyData.depthAll_keys_le ks)) (k2.more_le (fun b hm => List.mem_append_right _ hm) (PyData.depthAll_vals_le ks)))
theorem RddAll.k : ∀ {vs : List Value} {ds : List PyData}, RddAll h₀ vs ds → PyData.showableAll ds = true → (∀ t ∈ PyData.shownAll ds, t.length ≤ sizeLine) →
    ∃ bs, ReadAtMost h₀ (PyData.depthAll ds) bs ∧ ReprAllK prog w bs h₀ (PyData.depthAll ds) vs (PyData.shownAll ds)
  | _, _, .nil, _, _ => ⟨[], (fun _ q => nomatch q), by simp only [PyData.shownAll]; exact .nil⟩
  | _, _, .cons (d := d) (ds := ds) r rs, hs, hz => by
    have s2 : d.showable = true ∧ PyData.showableAll ds = true := by simpa [PyData.showableAll] using hs
    obtain ⟨b1, hb1, k1⟩ := Rdd.k r s2.1 (hz _ (by simp only [PyData.shownAll]; exact List.mem_cons_self ..))
    obtain ⟨b2, hb2, k2⟩ := RddAll.k rs s2.2 (fun t ht => hz t (by simp only [PyData.shownAll]; exact List.mem_cons_of_mem _ ht))
    refine ⟨b1 ++ b2, ?_, ?_⟩
    · simp only [PyData.depthAll]
      exact (hb1.mono (Nat.le_max_left _ _)).append (hb2.mono (Nat.le_max_right _ _))
    · simp only [PyData.depthAll, PyData.shownAll]
      exact .cons ((k1.more fun b hm => List.mem_append_left _ hm).level_le (Nat.le_max_left _ _)) (k2.more_le (fun b hm => List.mem_append_right _ hm) (Nat.le_max_right _ _))
end


theorem call_repr_any : ∀ {v : Value} {d : PyData}, Rdd h₀ v d → d.showable = true → d.shown.length ≤ sizeLine →
    ∀ (A : Around) (E : Value → Shared → Prop) (s : Shared) (Q : Value → Shared → Prop), A.guards = some [] → A.units + (d.depth + 1) < cLine → (∀ b o, h₀.get? b = some o → s.heap.get? b = some o) →
    (∀ h' u tk, (∀ b o, s.heap.get? b = some o → h'.get? b = some o) → Q (.str d.shown u) { s with heap := h', toks := tk }) → wpAny (model prog w) A (call (.builtin "repr") [v]) Q E s
  | _, _, .non, _, _, A, E, s, Q, _, _, _, hQ => by
    simp only [PyData.shown] at hQ
    exact P.repr_of_none (hQ s.heap _ _ fun _ _ e => e)
  | _, _, .bl b, _, _, A, E, s, Q, _, _, _, hQ => by
    simp only [PyData.shown] at hQ
    exact P.repr_of_bool (hQ s.heap _ _ fun _ _ e => e)
  | _, _, .int i t, hs, _, A, E, s, Q, _, _, _, hQ => by
    simp only [PyData.shown] at hQ
    exact P.repr_of_int (by simpa [PyData.showable] using hs) (hQ s.heap _ _ fun _ _ e => e)
  | _, _, .str x t, _, hz, A, E, s, Q, _, _, _, hQ => by
    simp only [PyData.shown] at hQ
    exact P.repr_of_str (hQ s.heap _ _ fun _ _ e => e) (by simpa only [PyData.shown] using hz)
  | _, _, .lst (a := a) (vs := vs) (xs := xs) e1 e2 e3 e4, hs, hz, A, E, s, Q, hg, hu, hk0, hQ => by
    have z : (listText (PyData.shownAll xs)).length ≤ sizeLine := by simpa only [PyData.shown] using hz
    obtain ⟨bs, hb, hk⟩ := RddAll.k (prog := prog) (w := w) e4 (by simpa [PyData.showable] using hs) (fun t ht => Nat.le_trans (listText_mem_le ht) z)
    obtain ⟨_, r⟩ := Rdd.reads (Rdd.lst e1 e2 e3 e4)
    have na : a ∉ bs := not_mem_of_deeper r (by simp only [PyData.depth]; omega) hb
    simp only [PyData.depth] at hu
    simp only [PyData.shown] at hQ
    refine call_repr_slot (by omega) ⟨_, hk0 _ _ e1, e2⟩ F.slot_list_repr.toG ?_
    obtain ⟨l⟩ := vs
    cases l with
    | nil =>
      have e5 : RddAll h₀ [] xs := e4
      cases e5
      simp only [PyData.shownAll, listText_nil] at hQ
      exact call_list_repr_empty ⟨_, hk0 _ _ e1, e2⟩ (hk0 _ _ e1) e3 ⟨_, _, rfl, hQ s.heap _ _ fun _ _ e => e⟩
    | cons x l =>
      exact call_list_reprK e1 e2 e3 na (by simpa using hk.length_eq) (fun i y e => hk.item i y (by simpa using e)) hg (fun b _ => Clear.nil b) (by show A.units + 1 + _ < cLine; omega) hk0 (fun h' u tk k => ⟨_, _, rfl, hQ h' u tk k⟩) z
  | _, _, .tup (a := a) (xs := xs) e1 e2 e3 e4, hs, hz, A, E, s, Q, hg, hu, hk0, hQ => by
    have z : (tupleText (PyData.shownAll xs)).length ≤ sizeLine := by simpa only [PyData.shown] using hz
    obtain ⟨bs, hb, hk⟩ := RddAll.k (prog := prog) (w := w) e4 (by simpa [PyData.showable] using hs) (fun t ht => Nat.le_trans (tupleText_mem_le ht) z)
    obtain ⟨_, r⟩ := Rdd.reads (Rdd.tup e1 e2 e3 e4)
    have na : a ∉ bs := not_mem_of_deeper r (by simp only [PyData.depth]; omega) hb
    simp only [PyData.depth] at hu
    simp only [PyData.shown] at hQ
    refine call_repr_slot (by omega) ⟨_, hk0 _ _ e1, e2⟩ F.slot_tuple_repr ?_
    exact call_tuple_reprK e1 e2 e3 na hk hg (fun b _ => Clear.nil b) (by show A.units + 1 + _ < cLine; omega) hk0 (fun h' u tk k => ⟨_, _, rfl, hQ h' u tk k⟩) z
  | _, _, .dic (a := a) (es := es) (ks := ks) e1 e2 e3 e6 e4 e5, hs, hz, A, E, s, Q, hg, hu, hk0, hQ => by
    have z : (dictText (PyData.shownKv ks)).length ≤ sizeLine := by simpa only [PyData.shown] using hz
    obtain ⟨s1, s2⟩ := PyData.showableKv_split ks (by simpa [PyData.showable] using hs)
    obtain ⟨b1, hb1, k1⟩ := RddAll.k (prog := prog) (w := w) e4 s1 (fun t ht => let ⟨p, hp, hl⟩ := PyData.shownKv_key_le ks t ht; Nat.le_trans hl (Nat.le_trans (dictText_mem_le hp) z))
    obtain ⟨b2, hb2, k2⟩ := RddAll.k (prog := prog) (w := w) e5 s2 (fun t ht => let ⟨p, hp, hl⟩ := PyData.shownKv_val_le ks t ht; Nat.le_trans hl (Nat.le_trans (dictText_mem_le hp) z))
    obtain ⟨_, r⟩ := Rdd.reads (Rdd.dic e1 e2 e3 e6 e4 e5)
    have hb : ReadAtMost h₀ (PyData.depthKv ks) (b1 ++ b2) := (hb1.mono (PyData.depthAll_keys_le ks)).append (hb2.mono (PyData.depthAll_vals_le ks))
    have na : a ∉ b1 ++ b2 := not_mem_of_deeper r (by simp only [PyData.depth]; omega) hb
    simp only [PyData.depth] at hu
    simp only [PyData.shown, PyData.shownKv_eq] at hQ
    refine call_repr_slot (by omega) ⟨_, hk0 _ _ e1, e2⟩ F.slot_dict_repr ?_
    exact call_dict_reprK e1 e2 e3 e6 na (ReprEntriesK.of_two es.toList _ _
      (k1.more_le (fun b hm => List.mem_append_left _ hm) (PyData.depthAll_keys_le ks)) (k2.more_le (fun b hm => List.mem_append_right _ hm) (PyData.depthAll_vals_le ks)))
      hg (fun b _ => Clear.nil b) (by show A.units + 1 + _ < cLine; omega) hk0 (fun h' u tk k => ⟨_, _, rfl, hQ h' u tk k⟩) (by rw [← PyData.shownKv_eq]; exact z)
end

/-! ### data over the abstract heap -/
/-- a key as data -/
def kD : Key → PyData
  | .inl i => .int i
  | .inr x => .str x
mutual
/-- data: lists and dicts at addresses of which F holds -/
inductive Dd (F : Addr → Prop) (H : Hp) : V → PyData → Prop
  | non : Dd F H .non .none
  | bl (b : Bool) : Dd F H (.bl b) (.bool b)
  | int (i : Int) : Dd F H (.int i) (.int i)
  | str (x : Str) : Dd F H (.str x) (.str x)
  | lst {a : Addr} {xs : List V} {ds : List PyData} : F a → H a = some (.lst xs) → DdAll F H xs ds → Dd F H (.ref a) (.list ds)
  | tup {a : Addr} {xs : List V} {ds : List PyData} : H a = some (.tup xs) → DdAll F H xs ds → Dd F H (.ref a) (.tuple ds)
  | dic {a : Addr} {kvs : List (Key × V)} {ds : List PyData} : F a → H a = some (.dK kvs) → DdAll F H (kvs.map (·.2)) ds → Dd F H (.ref a) (.dict ((kvs.map fun kv => kD kv.1).zip ds))
inductive DdAll (F : Addr → Prop) (H : Hp) : List V → List PyData → Prop
  | nil : DdAll F H [] []
  | cons {v : V} {vs : List V} {d : PyData} {ds : List PyData} : Dd F H v d → DdAll F H vs ds → DdAll F H (v :: vs) (d :: ds)
end
theorem DdAll.length {F : Addr → Prop} {H : Hp} : ∀ {vs : List V} {ds : List PyData}, DdAll F H vs ds → vs.length = ds.length
  | _, _, .nil => rfl
  | _, _, .cons _ r => by rw [List.length_cons, List.length_cons, DdAll.length r]
section
variable {F : Addr → Prop} {H H' : Hp}
mutual
/-- what the data's objects are, stays -/
theorem Dd.keep (k : ∀ a o, H a = some o → (F a ∨ ∃ xs, o = .tup xs) → H' a = some o) : ∀ {v : V} {d : PyData}, Dd F H v d → Dd F H' v d
  | _, _, .non => .non
  | _, _, .bl b => .bl b
  | _, _, .int i => .int i
  | _, _, .str x => .str x
  | _, _, .lst f e r => .lst f (k _ _ e (.inl f)) (DdAll.keep k r)
  | _, _, .tup e r => .tup (k _ _ e (.inr ⟨_, rfl⟩)) (DdAll.keep k r)
  | _, _, .dic f e r => .dic f (k _ _ e (.inl f)) (DdAll.keep k r)
theorem DdAll.keep (k : ∀ a o, H a = some o → (F a ∨ ∃ xs, o = .tup xs) → H' a = some o) : ∀ {vs : List V} {ds : List PyData}, DdAll F H vs ds → DdAll F H' vs ds
  | _, _, .nil => .nil
  | _, _, .cons a b => .cons (Dd.keep k a) (DdAll.keep k b)
end
mutual
theorem Dd.det : ∀ {v : V} {d e : PyData}, Dd F H v d → Dd F H v e → d = e
  | _, _, _, .non, b => by cases b; rfl
  | _, _, _, .bl _, b => by cases b; rfl
  | _, _, _, .int _, b => by cases b; rfl
  | _, _, _, .str _, b => by cases b; rfl
  | _, _, _, .lst _ e r, b => by
    cases b with
    | lst _ e2 r2 => rw [e] at e2; cases e2; rw [DdAll.det r r2]
    | tup e2 _ => rw [e] at e2; cases e2
    | dic _ e2 _ => rw [e] at e2; cases e2
  | _, _, _, .tup e r, b => by
    cases b with
    | lst _ e2 _ => rw [e] at e2; cases e2
    | tup e2 r2 => rw [e] at e2; cases e2; rw [DdAll.det r r2]
    | dic _ e2 _ => rw [e] at e2; cases e2
  | _, _, _, .dic _ e r, b => by
    cases b with
    | lst _ e2 _ => rw [e] at e2; cases e2
    | tup e2 _ => rw [e] at e2; cases e2
    | dic _ e2 r2 => rw [e] at e2; cases e2; rw [DdAll.det r r2]
theorem DdAll.det : ∀ {vs : List V} {ds es : List PyData}, DdAll F H vs ds → DdAll F H vs es → ds = es
  | _, _, _, .nil, b => by cases b; rfl
  | _, _, _, .cons a r, b => by
    cases b with
    | cons a2 r2 => rw [Dd.det a a2, DdAll.det r r2]
end
end
section
variable {X : Cx} {pins : List (Addr × Obj)} {σ : L2.St} {F : Addr → Prop} {H : Hp} {s : Shared}
theorem keys_rdd {P : Program} {w : World} : ∀ {es : List DictEntry} {kvs : List (Key × Value)}, Pairs (mixKind P w) es kvs → RddAll s.heap (es.map (·.key)) (kvs.map fun kv => kD kv.1)
  | _, _, .nil => .nil
  | _, _, .cons (e := en) (kv := kv) i _ r => by
    refine .cons ?_ (keys_rdd r)
    show Rdd _ en.key (kD kv.1)
    rcases keyIs_shape i with ⟨z, t, e1, e2⟩ | ⟨z, t, e1, e2⟩
    · rw [e1, e2]; exact .int z t
    · rw [e1, e2]; exact .str z t
theorem vals_of_pairs {P : Program} {w : World} : ∀ {es : List DictEntry} {kvs : List (Key × Value)}, Pairs (mixKind P w) es kvs → es.map (·.val) = kvs.map (·.2)
  | _, _, .nil => rfl
  | _, _, .cons _ e r => by rw [List.map_cons, List.map_cons, e, vals_of_pairs r]
theorem kv_keys : ∀ {kvs : List (Key × V)} {ws : List (Key × Value)}, KV kvs ws → (ws.map fun kv => kD kv.1) = kvs.map fun kv => kD kv.1
  | _, _, .nil => rfl
  | _, _, .cons e r => by rw [List.map_cons, List.map_cons, e.1, kv_keys r]
theorem kv_vals : ∀ {kvs : List (Key × V)} {ws : List (Key × Value)}, KV kvs ws → Vals (kvs.map (·.2)) (ws.map (·.2))
  | _, _, .nil => .nil
  | _, _, .cons e r => .cons e.2 (kv_vals r)
mutual
theorem Dd.rdd (I : Inv X pins σ H s) : ∀ {v : V} {d : PyData}, Dd F H v d → ∀ {u : Value}, RelV v u → Rdd s.heap u d
  | _, _, .non, _, r => by cases r; exact .non
  | _, _, .bl b, _, r => by cases r; exact .bl b
  | _, _, .int i, _, r => by obtain ⟨t, rfl⟩ := r; exact .int i t
  | _, _, .str x, _, r => by obtain ⟨t, rfl⟩ := r; exact .str x t
  | _, _, .lst _ e q, _, r => by
    cases r
    obtain ⟨_, its, n, rv, ho⟩ := I.hok _ _ e
    exact .lst ho rfl rfl (DdAll.rdd I q (by simpa using rv))
  | _, _, .tup e q, _, r => by
    cases r
    obtain ⟨_, its, rv, o, ho, hc, n, hd⟩ := I.hok _ _ e
    exact .tup ho hc hd (DdAll.rdd I q (by simpa using rv))
  | _, _, .dic (a := a) (kvs := kvs) (ds := ds) _ e q, _, r => by
    cases r
    obtain ⟨_, hy, ws, rv, o, es, ep, ho, hc, hd, _, hp, _⟩ := (show ObjOk X.prog X.w H s.heap a (.dK kvs) from I.hok _ _ e)
    have hl : (kvs.map fun kv => kD kv.1).length = ds.length := by rw [List.length_map, ← q.length, List.length_map]
    refine .dic ho hc.1 hd hy ?_ ?_
    · rw [List.map_fst_zip (Nat.le_of_eq hl), ← kv_keys rv]
      exact keys_rdd hp
    · rw [List.map_snd_zip (Nat.le_of_eq hl.symm), vals_of_pairs hp]
      exact DdAll.rdd I q (kv_vals rv)
theorem DdAll.rdd (I : Inv X pins σ H s) : ∀ {vs : List V} {ds : List PyData}, DdAll F H vs ds → ∀ {us : List Value}, Vals vs us → RddAll s.heap us ds
  | _, _, .nil, _, r => by cases r; exact .nil
  | _, _, .cons a b, _, r => by
    cases r with
    | cons r1 r2 => exact .cons (Dd.rdd I a r1) (DdAll.rdd I b r2)
end
end
/-! all integers within are below this -/
mutual
def ibD : PyData → Bool
  | .int i => decide (i.natAbs < 2 ^ 250)
  | .list xs => ibAll xs
  | .tuple xs => ibAll xs
  | .dict kvs => ibKv kvs
  | _ => true
def ibAll : List PyData → Bool
  | [] => true
  | d :: ds => ibD d && ibAll ds
def ibKv : List (PyData × PyData) → Bool
  | [] => true
  | (k, v) :: r => ibD k && (ibD v && ibKv r)
end
/-- data that repr tells -/
structure Rz (n m : Nat) (d : PyData) : Prop where
  sh : d.showable = true
  ls : d.leavesShort 2000 = true
  bk : d.bulk ≤ n
  dp : d.depth ≤ m
/-- data of bounded size -/
structure Sz (n m : Nat) (d : PyData) : Prop extends Rz n m d where
  ib : ibD d = true
instance {n m : Nat} {d : PyData} : Coe (Sz n m d) (Rz n m d) := ⟨Sz.toRz⟩
theorem Rz.mono {n m n' m' : Nat} {d : PyData} (z : Rz n m d) (h1 : n ≤ n') (h2 : m ≤ m') : Rz n' m' d := ⟨z.sh, z.ls, Nat.le_trans z.bk h1, Nat.le_trans z.dp h2⟩
theorem Sz.mono {n m n' m' : Nat} {d : PyData} (z : Sz n m d) (h1 : n ≤ n') (h2 : m ≤ m') : Sz n' m' d := ⟨z.toRz.mono h1 h2, z.ib⟩
theorem sz_none : Sz 0 0 .none := ⟨⟨rfl, by simp [PyData.leavesShort], by simp [PyData.bulk], by simp [PyData.depth]⟩, by simp [ibD]⟩
theorem sz_bool (b : Bool) : Sz 0 0 (.bool b) := ⟨⟨rfl, by simp [PyData.leavesShort], by simp [PyData.bulk], by simp [PyData.depth]⟩, by simp [ibD]⟩
theorem rz_int {i : Int} (g : i.natAbs.log2 < 1920) : Rz 0 0 (.int i) := by
  refine ⟨by simp [PyData.showable, g], ?_, by simp [PyData.bulk], by simp [PyData.depth]⟩
  have e := int_text_length_le (by decide : 0 < 1920) g
  rw [← PySem.ofString_length] at e
  unfold PyData.leavesShort
  exact decide_eq_true (show (Str.ofString (toString i)).length ≤ 2000 from Nat.le_trans e (by decide))
theorem sz_int {i : Int} (h : i.natAbs < 2 ^ 250) : Sz 0 0 (.int i) := ⟨rz_int (log2_small (Nat.lt_of_lt_of_le h (Nat.pow_le_pow_right (by decide) (by decide)))), by unfold ibD; exact decide_eq_true h⟩
theorem ib_int {i : Int} (h : ibD (.int i) = true) : i.natAbs < 2 ^ 250 := by
  unfold ibD at h
  exact of_decide_eq_true h
theorem sh_int {i : Int} (h : PyData.showable (.int i) = true) : i.natAbs.log2 < 1920 := by simpa [PyData.showable] using h
theorem lt_log {n : Nat} (h : n.log2 < 1920) : n < 2 ^ 2000 := by
  by_cases h0 : n = 0
  · rw [h0]
    exact Nat.pow_pos (by decide)
  · exact Nat.lt_of_lt_of_le ((Nat.log2_lt h0).mp h) (Nat.pow_le_pow_right (by decide) (by decide))
theorem log_le {m n : Nat} (h : m ≤ n) (g : n.log2 < 1920) : m.log2 < 1920 := by
  by_cases h0 : m = 0
  · rw [h0]
    decide
  · have hn : n ≠ 0 := by omega
    exact (Nat.log2_lt h0).mpr (Nat.lt_of_le_of_lt h ((Nat.log2_lt hn).mp g))
theorem sz_str {x : Str} {n : Nat} (h : (x.cps.toList.all fun c => decide (c < 16 ^ 8)) = true) (hn : x.cps.size ≤ n) : Sz n 0 (.str x) :=
  ⟨⟨by simp [PyData.showable], by simpa only [PyData.leavesShort] using h, by simpa only [PyData.bulk] using hn, by simp [PyData.depth]⟩, by simp [ibD]⟩
/-- all of a list -/
structure RzA (n m : Nat) (ds : List PyData) : Prop where
  sh : PyData.showableAll ds = true
  ls : PyData.leavesShortAll 2000 ds = true
  bk : PyData.bulkAll ds ≤ n
  dp : PyData.depthAll ds ≤ m
structure SzA (n m : Nat) (ds : List PyData) : Prop extends RzA n m ds where
  ib : ibAll ds = true
theorem rza_nil {m : Nat} : RzA 0 m [] := ⟨by simp [PyData.showableAll], by simp [PyData.leavesShortAll], by simp [PyData.bulkAll], by simp [PyData.depthAll]⟩
theorem sza_nil {m : Nat} : SzA 0 m [] := ⟨rza_nil, by simp [ibAll]⟩
theorem rza_cons {n n' m : Nat} {d : PyData} {ds : List PyData} (a : Rz n m d) (b : RzA n' m ds) : RzA (n + 1 + n') m (d :: ds) :=
  ⟨by simp [PyData.showableAll, a.sh, b.sh], by simp [PyData.leavesShortAll, a.ls, b.ls], by have h1 := a.bk; have h2 := b.bk; simp only [PyData.bulkAll]; omega, by have h1 := a.dp; have h2 := b.dp; simp only [PyData.depthAll]; omega⟩
theorem sza_cons {n n' m : Nat} {d : PyData} {ds : List PyData} (a : Sz n m d) (b : SzA n' m ds) : SzA (n + 1 + n') m (d :: ds) := ⟨rza_cons a.toRz b.toRzA, by simp [ibAll, a.ib, b.ib]⟩
theorem RzA.mono {n m n' m' : Nat} {d : List PyData} (z : RzA n m d) (h1 : n ≤ n') (h2 : m ≤ m') : RzA n' m' d := ⟨z.sh, z.ls, Nat.le_trans z.bk h1, Nat.le_trans z.dp h2⟩
theorem SzA.mono {n m n' m' : Nat} {d : List PyData} (z : SzA n m d) (h1 : n ≤ n') (h2 : m ≤ m') : SzA n' m' d := ⟨z.toRzA.mono h1 h2, z.ib⟩
theorem sza_of {n m : Nat} : ∀ {ds : List PyData}, (∀ d ∈ ds, Sz n m d) → SzA ((n + 1) * ds.length) m ds
  | [], _ => sza_nil.mono (Nat.zero_le _) (Nat.le_refl _)
  | d :: ds, h => (sza_cons (h d List.mem_cons_self) (sza_of fun e he => h e (List.mem_cons_of_mem _ he))).mono (by rw [List.length_cons, Nat.mul_succ]; omega) (Nat.le_refl _)
theorem RzA.list {n m : Nat} {ds : List PyData} (a : RzA n m ds) : Rz n (m + 1) (.list ds) :=
  ⟨by simpa only [PyData.showable] using a.sh, by simpa only [PyData.leavesShort] using a.ls, by simpa only [PyData.bulk] using a.bk, by have := a.dp; simp only [PyData.depth]; omega⟩
theorem RzA.tuple {n m : Nat} {ds : List PyData} (a : RzA n m ds) : Rz n (m + 1) (.tuple ds) :=
  ⟨by simpa only [PyData.showable] using a.sh, by simpa only [PyData.leavesShort] using a.ls, by simpa only [PyData.bulk] using a.bk, by have := a.dp; simp only [PyData.depth]; omega⟩
theorem SzA.list {n m : Nat} {ds : List PyData} (a : SzA n m ds) : Sz n (m + 1) (.list ds) := ⟨a.toRzA.list, by unfold ibD; exact a.ib⟩
theorem SzA.tuple {n m : Nat} {ds : List PyData} (a : SzA n m ds) : Sz n (m + 1) (.tuple ds) := ⟨a.toRzA.tuple, by unfold ibD; exact a.ib⟩
theorem Rz.fits {d : PyData} (z : Rz 7000 50 d) : d.shown.length ≤ sizeLine := by
  have h := PyData.shown_le_bulk 2000 (by decide) d z.ls
  have b := z.bk
  have e : sizeLine = 16777216 := by decide
  omega
section
variable {X : Cx}
def rRepr : List V → Hp → VK → Prop := fun xs H Q => ∃ (v : V) (F : Addr → Prop) (d : PyData), xs = [v] ∧ Dd F H v d ∧ Rz 7000 50 d ∧ Q (.str d.shown) H
theorem cr_repr (hg : X.A.guards = some []) (hu : X.A.units + 64 < cLine) : CallR X (.builtin "repr") rRepr := by
  intro pins s σ H xs us Q I r h
  obtain ⟨v, F, d, rfl, hd, f, q⟩ := h
  obtain ⟨u, rfl, ru⟩ := Vals.one r
  refine call_repr_any (hd.rdd I ru) f.sh f.fits X.A _ s _ hg (by have := f.dp; omega) (fun _ _ e => e) fun h' t tk k => ?_
  exact ⟨.str d.shown, H, I.kept k, ⟨t, rfl⟩, q⟩
end
end Ey
namespace Ey
open PySem PySem.Spec PyProof.Rows L2
/-! ### the deck -/
abbrev dkv (l : Addr) (m k : Int) : List (Key × V) := [(.inr ("left" : Str), .ref l), (.inr ("mixed" : Str), .int m), (.inr ("draws" : Str), .int k)]
theorem nLM : ¬ (Sum.inr ("left" : Str) : Key) = Sum.inr ("mixed" : Str) := by decide +kernel
theorem nLD : ¬ (Sum.inr ("left" : Str) : Key) = Sum.inr ("draws" : Str) := by decide +kernel
theorem nMD : ¬ (Sum.inr ("mixed" : Str) : Key) = Sum.inr ("draws" : Str) := by decide +kernel
theorem dkv_left {l : Addr} {m k : Int} : valV (dkv l m k) (.inr ("left" : Str)) = some (.ref l) := valV_pos rfl
theorem dkv_mixed {l : Addr} {m k : Int} : valV (dkv l m k) (.inr ("mixed" : Str)) = some (.int m) := (valV_neg nLM).trans (valV_pos rfl)
theorem dkv_draws {l : Addr} {m k : Int} : valV (dkv l m k) (.inr ("draws" : Str)) = some (.int k) := (valV_neg nLD).trans ((valV_neg nMD).trans (valV_pos rfl))
theorem dkv_putM {l : Addr} {m k n : Int} : putK (dkv l m k) (.inr ("mixed" : Str)) (.int n) = dkv l n k := by
  unfold putK
  have e1 := nLM
  have e3 : ¬ (Sum.inr ("draws" : Str) : Key) = Sum.inr ("mixed" : Str) := fun z => nMD z.symm
  simp only [dkv, List.any_cons, List.map_cons, List.map_nil, if_neg e1, if_neg e3, if_pos]
  simp
theorem dkv_putD {l : Addr} {m k n : Int} : putK (dkv l m k) (.inr ("draws" : Str)) (.int n) = dkv l m n := by
  unfold putK
  have e1 := nLD
  have e3 := nMD
  simp only [dkv, List.any_cons, List.map_cons, List.map_nil, if_neg e1, if_neg e3, if_pos]
  simp
/-- the deck stands at d, its list at l -/
structure Deck (d l : Addr) (H : Hp) : Prop where
  ex : ∃ (ns : List Int) (m k : Int), ns.length ≤ 63 ∧ H d = some (.dK (dkv l m k)) ∧ H l = some (.lst (ns.map V.int))
/-- all but the deck is as it was -/
def Kp (d l : Addr) (H H' : Hp) : Prop := ∀ a o, H a = some o → a ≠ d → a ≠ l → H' a = some o
theorem Kp.refl {d l : Addr} (H : Hp) : Kp d l H H := fun _ _ e _ _ => e
theorem Kp.trans {d l : Addr} {H H1 H2 : Hp} (a : Kp d l H H1) (b : Kp d l H1 H2) : Kp d l H H2 := fun x o e n1 n2 => b x o (a x o e n1 n2) n1 n2
theorem Kp.of {d l : Addr} {H H1 : Hp} (a : Evl.Ex H H1) : Kp d l H H1 := fun x o e _ _ => a x o e
theorem Kp.new {d l : Addr} {H H1 : Hp} {p : Addr} {o : HO} (a : Kp d l H H1) (n : H1 p = none) : Kp d l H (upd H1 p o) := fun x u e n1 n2 => by
  rw [upd_ne (ne_of_none (a x u e n1 n2) n)]
  exact a x u e n1 n2
theorem Kp.d {d l : Addr} {H H1 : Hp} {o : HO} (a : Kp d l H H1) : Kp d l H (upd H1 d o) := fun x u e n1 n2 => by
  rw [upd_ne n1]
  exact a x u e n1 n2
theorem Kp.l {d l : Addr} {H H1 : Hp} {o : HO} (a : Kp d l H H1) : Kp d l H (upd H1 l o) := fun x u e n1 n2 => by
  rw [upd_ne n2]
  exact a x u e n1 n2
theorem Deck.new {d l : Addr} {H : Hp} {p : Addr} {o : HO} (D : Deck d l H) (n : H p = none) : Deck d l (upd H p o) := by
  obtain ⟨ns, m, k, h, e1, e2⟩ := D.ex
  exact ⟨ns, m, k, h, by rw [upd_ne (ne_of_none e1 n)]; exact e1, by rw [upd_ne (ne_of_none e2 n)]; exact e2⟩
theorem Deck.ex' {d l : Addr} {H H1 : Hp} (D : Deck d l H) (a : Evl.Ex H H1) : Deck d l H1 := by
  obtain ⟨ns, m, k, h, e1, e2⟩ := D.ex
  exact ⟨ns, m, k, h, a _ _ e1, a _ _ e2⟩

theorem g_left {d l : Addr} {m k : Int} {H : Hp} (e : H d = some (.dK (dkv l m k))) : DGet H d (.str ("left" : Str)) (some (.ref l)) := by
  have g := DGet.k (k := Sum.inr ("left" : Str)) e
  rw [dkv_left] at g
  exact g
theorem g_mixed {d l : Addr} {m k : Int} {H : Hp} (e : H d = some (.dK (dkv l m k))) : DGet H d (.str ("mixed" : Str)) (some (.int m)) := by
  have g := DGet.k (k := Sum.inr ("mixed" : Str)) e
  rw [dkv_mixed] at g
  exact g
theorem g_draws {d l : Addr} {m k : Int} {H : Hp} (e : H d = some (.dK (dkv l m k))) : DGet H d (.str ("draws" : Str)) (some (.int k)) := by
  have g := DGet.k (k := Sum.inr ("draws" : Str)) e
  rw [dkv_draws] at g
  exact g
theorem p_mixed {d l : Addr} {m k n : Int} {H : Hp} (e : H d = some (.dK (dkv l m k))) : DPut H d (.str ("mixed" : Str)) (.int n) (upd H d (.dK (dkv l n k))) := by
  have g := DPut.k (k := Sum.inr ("mixed" : Str)) (v := .int n) e (by show 3 < sizeLine; decide)
  rw [dkv_putM] at g
  exact g
theorem p_draws {d l : Addr} {m k n : Int} {H : Hp} (e : H d = some (.dK (dkv l m k))) : DPut H d (.str ("draws" : Str)) (.int n) (upd H d (.dK (dkv l m n))) := by
  have g := DPut.k (k := Sum.inr ("draws" : Str)) (v := .int n) e (by show 3 < sizeLine; decide)
  rw [dkv_putD] at g
  exact g
/-! ### lists of ints as data -/
theorem dp_ints {K : PySem.W.Frag} {H : Hp} : ∀ ns : List Int, DpAll K H (ns.map V.int) (ns.map PyData.int)
  | [] => .nil
  | n :: r => .cons (.int n) (dp_ints r)
theorem lay_ints : ∀ ns : List Int, PyData.canLayAll0 (ns.map PyData.int) = true
  | [] => by simp [PyData.canLayAll0]
  | n :: r => by simp [PyData.canLayAll0, PyData.canLay0, lay_ints r]
theorem dep_ints : ∀ ns : List Int, PyData.depthAll (ns.map PyData.int) = 0
  | [] => by simp [PyData.depthAll]
  | n :: r => by simp [PyData.depthAll, PyData.depth, dep_ints r]
theorem shaped_ints (ns : List Int) : SeqAt.shaped (.list (ns.map PyData.int)) = true := by
  unfold SeqAt.shaped
  simp [PyData.canLay0, PyData.depth, lay_ints, dep_ints]
theorem dv {j : Int} (h : (0 : Int) < j) : (0 : Int) < j := h
theorem lt18 {j : Int} (h : j ≤ 1000000) : j < 10 ^ 18 := Int.lt_of_le_of_lt h (by decide)
theorem nil_or_last : ∀ ns : List Int, ns = [] ∨ ∃ r x, ns = r ++ [x]
  | [] => .inl rfl
  | n :: r => by
    rcases nil_or_last r with e | ⟨q, x, e⟩
    · exact .inr ⟨[], n, by rw [e]; rfl⟩
    · exact .inr ⟨n :: q, x, by rw [e]; rfl⟩
theorem eqv_nil (ns : List Int) : PyData.eqv (.list (ns.map PyData.int)) (.list []) = ns.isEmpty := by
  cases ns <;> simp [PyData.eqv, PyData.eqvAll]
end Ey
namespace Ey
open PySem PySem.Spec PyProof.Rows L2
section
variable {P : Program} {w : World} {K : PySem.W.Frag} {mg : Str → Option Value} {base : Heap}
/-- what the top's names say of the language's own -/
structure Blt (mg : Str → Option Value) : Prop where
  int : mg "int" = none
  max : mg "max" = none
  len : mg "len" = none
  list : mg "list" = none
  range : mg "range" = none
  tuple : mg "tuple" = none
  isinst : mg "isinstance" = none
  bool : mg "bool" = none
  abs : mg "abs" = none
  repr : mg "repr" = none
  str : mg "str" = none
  all : mg "all" = none
  min : mg "min" = none
  any : mg "any" = none
  sorted : mg "sorted" = none
  zip : mg "zip" = none
  enum : mg "enumerate" = none
  set : mg "set" = none
  dict : mg "dict" = none

/-- a def of the text, called by its name: its promise at a level -/
structure Fk (P : Program) (w : World) (K : PySem.W.Frag) (mg : Str → Option Value) (base : Heap) (CX : CXT) (k : Nat) (x : Str) (ps : List Str) (sp : Sp) : Prop where
  ex : ∃ (f : Addr) (fd : FuncData), FnOk P w K mg base CX k f fd ps sp ∧ Binds K fd ps [] ∧ mg x = some (.ref f) ∧ PySem.W.keepIn K (.ref f) = true ∧ ∃ oc od osl, K.lookup f = some ⟨oc, od, .func fd, osl⟩
theorem fun_lk {x qual : Str} {st : Stmt} {f : Addr} {fd : FuncData} (F : Fun K x qual st f fd) : ∃ oc od osl, K.lookup f = some ⟨oc, od, .func fd, osl⟩ := by
  obtain ⟨oc, od, kV, doc, pm, an, cdv, ct, osl, e, lk, _⟩ := F.ex
  exact ⟨oc, od, osl, lk⟩
/-- where a def stands -/
structure At (K : PySem.W.Frag) (mg : Str → Option Value) (x : Str) (st : Stmt) : Prop where
  ex : ∃ (f : Addr) (fd : FuncData), Fun K x x st f fd ∧ mg x = some (.ref f)
theorem Fk.mono {CX : CXT} {j k : Nat} {x : Str} {ps : List Str} {sp : Sp} (F : Fk P w K mg base CX j x ps sp) (h : j ≤ k) : Fk P w K mg base CX k x ps sp := by
  obtain ⟨f, fd, a, b, c, d⟩ := F.ex
  exact ⟨f, fd, a.mono h, b, c, d⟩
theorem Fk.weak {CX : CXT} {k : Nat} {x : Str} {ps : List Str} {sp sp' : Sp} (F : Fk P w K mg base CX k x ps sp) (h : ∀ vs H Q E, sp' vs H Q E → sp vs H Q E) : Fk P w K mg base CX k x ps sp' := by
  obtain ⟨f, fd, a, b, c, d⟩ := F.ex
  exact ⟨f, fd, ⟨fun vs H Q E z => a.len vs H Q E (h vs H Q E z), fun A outer s H args us vs Q E r e b v z => a.run A outer s H args us vs Q E r e b v (h vs H Q E z)⟩, b, c, d⟩
theorem pe_cl {X : Cx} {CX : CXT} {k : Nat} {x : Str} {ps : List Str} {sp : Sp} {E : XK} {p pos : Pos} {e : Expr} {es : List Expr} {t : TA} (G : Fk X.prog X.w X.K X.mg X.base CX k x ps sp) (hr : Room k X.A) (hg : Gl X x) (hx : Passes CX X E) (ha : PA X (e :: es) t)
    (hdb : (x == ("__debug__" : Str)) = false := by decide) (he : starEach (e :: es) X.env = (false, eval e X.env) :: starEach es X.env := by rfl) (hpl : (backTo pos (starEach es X.env)).any (·.1) = false := by rfl) :
    PE X (.Call (.Name x p) (e :: es) [] pos) (tCall sp [] E t) := by
  obtain ⟨f, fd, a, b, c, d⟩ := G.ex
  exact pe_call a hr hg c d.1 b .nil hx ha hdb he hpl
/-- how x(k = v, ..) binds: keywords ks alone, in the order that o tells -/
def KwOf (K : PySem.W.Frag) (x : Str) (st : Stmt) (ps ks : List Str) (o : List Nat) : Prop :=
  ∀ (f : Addr) (fd : FuncData), Fun K x x st f fd → ∀ (s : Shared) (ws : List Value), K.In s.heap → ws.length = ks.length → BindsTo s fd ⟨[], ks.zip ws⟩ (ps.zip (o.map fun i => ws.getD i .none))
theorem vals_perm {zs : List V} {ws : List Value} (r : Vals zs ws) : ∀ o : List Nat, (∀ i ∈ o, i < zs.length) → Vals (o.map fun i => zs.getD i .non) (o.map fun i => ws.getD i .none)
  | [], _ => .nil
  | i :: o, h => by
    have hi := h i List.mem_cons_self
    obtain ⟨u, hu, ru⟩ := r.get (List.getElem?_eq_getElem hi)
    refine .cons ?_ (vals_perm r o fun j hj => h j (List.mem_cons_of_mem _ hj))
    show RelV (zs.getD i .non) (ws.getD i .none)
    rw [List.getD_eq_getElem?_getD, List.getD_eq_getElem?_getD, hu, List.getElem?_eq_getElem hi]
    exact ru
def tCallKw (n : Nat) (o : List Nat) (sp : Sp) (E : XK) (tk : TA) : TE := fun σ H Q => tk σ H fun zs H1 => zs.length = n ∧ sp (o.map fun i => zs.getD i .non) H1 Q E
theorem pe_clk {X : Cx} {CX : CXT} {k : Nat} {x : Str} {st : Stmt} {ps ks : List Str} {o : List Nat} {sp : Sp} {E : XK} {p pos : Pos} {kws : List Keyword} {tk : TA} (G : Fk X.prog X.w X.K X.mg X.base CX k x ps sp) (S : At X.K X.mg x st) (B : KwOf X.K x st ps ks o) (ho : ∀ i ∈ o, i < ks.length)
    (hr : Room k X.A) (hg : Gl X x) (hx : Passes CX X E) (hkw : PK X kws tk)
    (hall : (backToKw pos (keywordEach kws X.env)).all (·.1.isSome) = true := by rfl) (hks : (backToKw pos (keywordEach kws X.env)).filterMap (·.1) = ks := by rfl) (hdb : (x == ("__debug__" : Str)) = false := by decide)
    (hpl : ((backTo pos (starEach [] X.env)).any (·.1) || (backToKw pos (keywordEach kws X.env)).any (·.1.isNone)) = false := by rfl) :
    PE X (.Call (.Name x p) [] kws pos) (tCallKw ks.length o sp E tk) := by
  obtain ⟨f, fd, a, _, c, d, oc, od, osl, lk⟩ := G.ex
  obtain ⟨f2, fd2, F2, c2⟩ := S.ex
  rw [c] at c2
  cases c2
  obtain ⟨oc2, od2, osl2, lk2⟩ := fun_lk F2
  rw [lk] at lk2
  cases lk2
  refine ⟨fun pins s σ H Q I h => ?_⟩
  refine wpAny_Call_Name_kw (ld_glob I hg c ?_ hdb)
  refine PySem.W.callWith_KW0 (h₀ := X.base) I.ok.mod.kin d hall ?_ hpl
  refine thn (hkw.run pos pins s σ H _ I h) fun ws s2 ⟨zs, H2, I2, rz, hl, q2⟩ => ⟨I2.kIn, ?_⟩
  rw [hks]
  have hl2 : ws.length = ks.length := rz.length.symm.trans hl
  have r2 := vals_perm rz o fun i hi => by rw [hl]; exact ho i hi
  refine wpAny_call (codeAny_mono (a.run X.A X.stack s2 H2 ⟨[], ks.zip ws⟩ _ _ Q E hr I2.env0 (B f fd F2 s2 ws I2.kIn hl2) r2 q2) fun r s' hq => ?_)
  cases r with
  | error e => exact hx pins σ H2 s2 e s' I2 hq
  | ok fl =>
    cases fl with
    | ret u => exact I2.after hq
    | next => exact False.elim hq
    | brk => exact False.elim hq
    | cont => exact False.elim hq
end
end Ey
/-! ### readings over data: what a statement does to its slots, told without a heap -/
namespace Ey
open PySem PySem.Spec PyProof.Rows L2
/-- a slot: nothing is said, data, a list of its own (not known elsewhere), the deck -/
inductive Sl where
  | any
  | d (x : PyData)
  | own (xs : List PyData)
  | dk
abbrev Env := List Sl
/-- what stands over a whole call -/
structure Fx where
  H0 : Hp
  F0 : Addr → Prop
  D : Option (Addr × Addr)
  cl : Str → Addr
  E : XK
  Ed : Str → PyData → Prop
def Fx.off (f : Fx) (a : Addr) : Prop := ∀ d l, f.D = some (d, l) → a ≠ d ∧ a ≠ l
def Fx.deck (f : Fx) (H : Hp) : Prop := ∀ d l, f.D = some (d, l) → Deck d l H
structure Go (f : Fx) (H H' : Hp) : Prop where
  kp : ∀ a o, H a = some o → f.off a → H' a = some o
  dk : f.deck H'
def fldOf (c : Str) : Str := if c = ("BadText" : Str) then ("line" : Str) else ("thing" : Str)
structure Fx.Ok (f : Fx) : Prop where
  opn : ∀ b, f.H0 b = none → f.F0 b
  off : ∀ b, f.F0 b → f.off b
  dk : f.deck f.H0
  ex : ∀ c x a v H', f.Ed c x → Go f f.H0 H' → f.H0 a = none → H' a = some (.xd [(fldOf c, v)]) → Dd f.F0 H' v x → f.E (.ref (f.cl c)) (some a) H'
def Fr (f : Fx) (L : List Addr) : Addr → Prop := fun b => f.F0 b ∧ b ∉ L
def SlR (f : Fx) (L : List Addr) (H : Hp) : Sl → Option V → Prop
  | .any, _ => True
  | .d x, o => ∃ v, o = some v ∧ Dd (Fr f L) H v x
  | .own xs, o => ∃ a vs, o = some (.ref a) ∧ a ∈ L ∧ H a = some (.lst vs) ∧ DdAll (Fr f L) H vs xs
  | .dk, o => ∃ d l, f.D = some (d, l) ∧ o = some (.ref d)
structure Rel (f : Fx) (L : List Addr) (σ : L2.St) (H : Hp) (ρ : Env) : Prop where
  ok : f.Ok
  go : Go f f.H0 H
  len : σ.length = ρ.length
  own : ∀ a ∈ L, f.H0 a = none ∧ ∃ vs, H a = some (.lst vs)
  sl : ∀ (i : Nat) (s : Sl), ρ[i]? = some s → ∃ o, σ[i]? = some o ∧ SlR f L H s o
  inj : ∀ (i j : Nat) (xs ys : List PyData), ρ[i]? = some (.own xs) → ρ[j]? = some (.own ys) → σ[i]? = σ[j]? → i = j
/-! data and other predicates -/
mutual
theorem Dd.imp {F G : Addr → Prop} {H : Hp} (k : ∀ a o, H a = some o → F a → G a) : ∀ {v : V} {d : PyData}, Dd F H v d → Dd G H v d
  | _, _, .non => .non
  | _, _, .bl b => .bl b
  | _, _, .int i => .int i
  | _, _, .str x => .str x
  | _, _, .lst f e r => .lst (k _ _ e f) e (DdAll.imp k r)
  | _, _, .tup e r => .tup e (DdAll.imp k r)
  | _, _, .dic f e r => .dic (k _ _ e f) e (DdAll.imp k r)
theorem DdAll.imp {F G : Addr → Prop} {H : Hp} (k : ∀ a o, H a = some o → F a → G a) : ∀ {vs : List V} {ds : List PyData}, DdAll F H vs ds → DdAll G H vs ds
  | _, _, .nil => .nil
  | _, _, .cons a b => .cons (Dd.imp k a) (DdAll.imp k b)
end
theorem deck_shape {d l a : Addr} {H : Hp} {xs : List V} (D : Deck d l H) (e : H a = some (.tup xs)) : a ≠ d ∧ a ≠ l := by
  obtain ⟨ns, m, k, _, e1, e2⟩ := D.ex
  refine ⟨?_, ?_⟩
  · rintro rfl
    rw [e] at e1
    cases e1
  · rintro rfl
    rw [e] at e2
    cases e2
theorem deck_some {d l a : Addr} {H : Hp} (D : Deck d l H) (e : H a = none) : a ≠ d ∧ a ≠ l := by
  obtain ⟨ns, m, k, _, e1, e2⟩ := D.ex
  refine ⟨?_, ?_⟩
  · rintro rfl
    rw [e] at e1
    cases e1
  · rintro rfl
    rw [e] at e2
    cases e2
section
variable {f : Fx} {L L' : List Addr} {σ σ' : L2.St} {H H' H'' : Hp} {ρ ρ' : Env} {v : V} {x : PyData} {vs : List V} {xs : List PyData}
theorem Go.refl (h : f.deck H) : Go f H H := ⟨fun _ _ e _ => e, h⟩
theorem Go.trans (a : Go f H H') (b : Go f H' H'') : Go f H H'' := ⟨fun x o e n => b.kp x o (a.kp x o e n) n, b.dk⟩
theorem Go.of (h : f.deck H) (a : Evl.Ex H H') : Go f H H' := ⟨fun x o e _ => a x o e, fun d l e => (h d l e).ex' a⟩
theorem Go.new {p : Addr} {o : HO} (a : Go f H H') (n : H' p = none) : Go f H (upd H' p o) := a.trans (Go.of a.dk (Evl.Ex.new n))
theorem Rel.deck (r : Rel f L σ H ρ) : f.deck H := r.go.dk
theorem Rel.self (r : Rel f L σ H ρ) : Go f H H := Go.refl r.deck
theorem Rel.tup_off (r : f.deck H) {a : Addr} {ys : List V} (e : H a = some (.tup ys)) : f.off a := fun d l ed => deck_shape (r d l ed) e
theorem keep_of (ok : f.Ok) (h : f.deck H) (g : Go f H H') : ∀ a o, H a = some o → (Fr f L a ∨ ∃ xs, o = .tup xs) → H' a = some o := fun a o e k => by
  rcases k with k | ⟨ys, rfl⟩
  · exact g.kp a o e (ok.off a k.1)
  · exact g.kp a _ e (Rel.tup_off h e)
theorem keep_of0 (ok : f.Ok) (h : f.deck H) (g : Go f H H') : ∀ a o, H a = some o → (f.F0 a ∨ ∃ xs, o = .tup xs) → H' a = some o := fun a o e k => by
  rcases k with k | ⟨ys, rfl⟩
  · exact g.kp a o e (ok.off a k)
  · exact g.kp a _ e (Rel.tup_off h e)
theorem Rel.dd (r : Rel f L σ H ρ) (g : Go f H H') (d : Dd (Fr f L) H v x) : Dd (Fr f L) H' v x := d.keep (keep_of r.ok r.deck g)
theorem Rel.dds (r : Rel f L σ H ρ) (g : Go f H H') (d : DdAll (Fr f L) H vs xs) : DdAll (Fr f L) H' vs xs := d.keep (keep_of r.ok r.deck g)
theorem Rel.own_off (r : Rel f L σ H ρ) {a : Addr} (h : a ∈ L) : f.off a := r.ok.off a (r.ok.opn a (r.own a h).1)
theorem SlR.mv {s : Sl} {o : Option V} (ok : f.Ok) (h : f.deck H) (own : ∀ a ∈ L, f.off a) (g : Go f H H') (q : SlR f L H s o) : SlR f L H' s o := by
  cases s with
  | any => trivial
  | d x =>
    obtain ⟨v, e, d⟩ := q
    exact ⟨v, e, d.keep (keep_of ok h g)⟩
  | own xs =>
    obtain ⟨a, vs, e, m, ea, d⟩ := q
    exact ⟨a, vs, e, m, g.kp _ _ ea (own a m), d.keep (keep_of ok h g)⟩
  | dk => exact q
/-- behind an expression -/
theorem Rel.mv (r : Rel f L σ H ρ) (g : Go f H H') : Rel f L σ H' ρ :=
  ⟨r.ok, r.go.trans g, r.len, fun a h => ⟨(r.own a h).1, by
    obtain ⟨vs, e⟩ := (r.own a h).2
    exact ⟨vs, g.kp _ _ e (r.own_off h)⟩⟩, fun i s e => by
    obtain ⟨o, eo, q⟩ := r.sl i s e
    exact ⟨o, eo, q.mv r.ok r.deck (fun a h => r.own_off h) g⟩, r.inj⟩
theorem Rel.fresh (r : Rel f L σ H ρ) {p : Addr} (n : H p = none) : f.H0 p = none := by
  cases e : f.H0 p with
  | none => rfl
  | some o =>
    have k := r.go.kp p o e fun d l ed => deck_some (r.deck d l ed) n
    rw [n] at k
    cases k
theorem Rel.opn (r : Rel f L σ H ρ) {p : Addr} (n : H p = none) : Fr f L p := ⟨r.ok.opn p (r.fresh n), fun h => by
  obtain ⟨vs, e⟩ := (r.own p h).2
  rw [n] at e
  cases e⟩
theorem Rel.new (r : Rel f L σ H ρ) {p : Addr} {o : HO} (n : H p = none) : Go f H (upd H p o) := r.self.new n
theorem dd_weak (d : Dd (Fr f L) H v x) : Dd f.F0 H v x := d.imp fun _ _ _ h => h.1
theorem dds_weak (d : DdAll (Fr f L) H vs xs) : DdAll f.F0 H vs xs := d.imp fun _ _ _ h => h.1
/-! ### behind a statement -/
structure Tr (f : Fx) (L : List Addr) (H : Hp) (L' : List Addr) (H' : Hp) : Prop where
  new : ∀ a ∈ L', a ∈ L ∨ H a = none
  kp : ∀ a o, H a = some o → f.off a → a ∉ L → H' a = some o
theorem Tr.refl : Tr f L H L H := ⟨fun _ h => .inl h, fun _ _ e _ _ => e⟩
theorem Tr.back (d : f.deck H') (a : Tr f L H L' H') {p : Addr} (n : H' p = none) : p ∈ L ∨ H p = none := by
  by_cases m : p ∈ L
  · exact .inl m
  · cases e : H p with
    | none => exact .inr rfl
    | some o =>
      have k := a.kp p o e (fun d1 l ed => deck_some (d d1 l ed) n) m
      rw [n] at k
      cases k
theorem Tr.trans {L'' : List Addr} (d : f.deck H') (a : Tr f L H L' H') (b : Tr f L' H' L'' H'') : Tr f L H L'' H'' := by
  refine ⟨fun x h => ?_, fun x o e n m => ?_⟩
  · rcases b.new x h with h | h
    · exact a.new x h
    · exact a.back d h
  · exact b.kp x o (a.kp x o e n m) n fun h => by
      rcases a.new x h with h | h
      · exact m h
      · rw [e] at h
        cases h
theorem Tr.of (g : Go f H H') : Tr f L H L H' := ⟨fun _ h => .inl h, fun a o e n _ => g.kp a o e n⟩
/-- data, from statement to statement -/
theorem Tr.dd (r : Rel f L σ H ρ) (t : Tr f L H L' H') (d : Dd (Fr f L) H v x) : Dd (Fr f L') H' v x := by
  have k : ∀ a o, H a = some o → (Fr f L a ∨ ∃ xs, o = .tup xs) → H' a = some o := fun a o e h => by
    rcases h with h | ⟨ys, rfl⟩
    · exact t.kp a o e (r.ok.off a h.1) h.2
    · refine t.kp a _ e (Rel.tup_off r.deck e) fun m => ?_
      obtain ⟨vs, e2⟩ := (r.own a m).2
      rw [e] at e2
      cases e2
  refine ((Dd.imp (G := fun a => Fr f L a ∧ Fr f L' a) (fun a o e h => ⟨h, h.1, fun m => ?_⟩) d).keep fun a o e h => ?_).imp fun _ _ _ h => h.2
  · rcases t.new a m with m | m
    · exact h.2 m
    · rw [e] at m
      cases m
  · rcases h with h | h
    · exact k a o e (.inl h.1)
    · exact k a o e (.inr h)
theorem Tr.dds (r : Rel f L σ H ρ) (t : Tr f L H L' H') : ∀ {vs : List V} {xs : List PyData}, DdAll (Fr f L) H vs xs → DdAll (Fr f L') H' vs xs
  | _, _, .nil => .nil
  | _, _, .cons a b => .cons (Tr.dd r t a) (Tr.dds r t b)
end
end Ey
/-! ### expressions over data -/
namespace Ey
open PySem PySem.Spec PyProof.Rows L2
abbrev DE := Env → (PyData → Prop) → Prop
abbrev DA := Env → (List PyData → Prop) → Prop
abbrev DT := Env → (Bool → Prop) → Prop
abbrev DO := Env → (Option Int → Prop) → Prop
abbrev R2d := PyData → PyData → (PyData → Prop) → Prop
abbrev R1d := PyData → (PyData → Prop) → Prop
abbrev RNd := List PyData → (PyData → Prop) → Prop
/-- what is to be done by a class of the language: a set of calls with their errors -/
abbrev Md := List PyData → (PyData → Prop) → (Str → PyData → Prop) → Prop
def SE (f : Fx) (te : TE) (t : DE) : Prop := ∀ (L : List Addr) (σ : L2.St) (H : Hp) (ρ : Env) (Q : PyData → Prop) (R : VK), Rel f L σ H ρ → t ρ Q → (∀ v H' x, Go f H H' → Dd (Fr f L) H' v x → Q x → R v H') → te σ H R
def SA (f : Fx) (te : TA) (t : DA) : Prop := ∀ (L : List Addr) (σ : L2.St) (H : Hp) (ρ : Env) (Q : List PyData → Prop) (R : List V → Hp → Prop), Rel f L σ H ρ → t ρ Q → (∀ vs H' xs, Go f H H' → DdAll (Fr f L) H' vs xs → Q xs → R vs H') → te σ H R
def ST (f : Fx) (te : TT) (t : DT) : Prop := ∀ (L : List Addr) (σ : L2.St) (H : Hp) (ρ : Env) (Q : Bool → Prop) (R : Bool → Hp → Prop), Rel f L σ H ρ → t ρ Q → (∀ b H', Go f H H' → Q b → R b H') → te σ H R
def SO (f : Fx) (te : TO) (t : DO) : Prop := ∀ (L : List Addr) (σ : L2.St) (H : Hp) (ρ : Env) (Q : Option Int → Prop) (R : Option Int → Hp → Prop), Rel f L σ H ρ → t ρ Q → (∀ b H', Go f H H' → Q b → R b H') → te σ H R
def S2 (f : Fx) (r : R2) (t : R2d) : Prop := ∀ (L : List Addr) (σ : L2.St) (H : Hp) (ρ : Env) (v u : V) (x y : PyData) (Q : PyData → Prop) (R : VK), Rel f L σ H ρ → Dd (Fr f L) H v x → Dd (Fr f L) H u y → t x y Q → (∀ w H' z, Go f H H' → Dd (Fr f L) H' w z → Q z → R w H') → r v u H R
def S1 (f : Fx) (r : V → Hp → VK → Prop) (t : R1d) : Prop := ∀ (L : List Addr) (σ : L2.St) (H : Hp) (ρ : Env) (v : V) (x : PyData) (Q : PyData → Prop) (R : VK), Rel f L σ H ρ → Dd (Fr f L) H v x → t x Q → (∀ w H' z, Go f H H' → Dd (Fr f L) H' w z → Q z → R w H') → r v H R
def SN (f : Fx) (r : List V → Hp → VK → Prop) (t : RNd) : Prop := ∀ (L : List Addr) (σ : L2.St) (H : Hp) (ρ : Env) (vs : List V) (xs : List PyData) (Q : PyData → Prop) (R : VK), Rel f L σ H ρ → DdAll (Fr f L) H vs xs → t xs Q → (∀ w H' z, Go f H H' → Dd (Fr f L) H' w z → Q z → R w H') → r vs H R
/-! what a value is, told by what goes on -/
abbrev byD (x : PyData) (n : Prop := False) (b : Bool → Prop := fun _ => False) (i : Int → Prop := fun _ => False) (z : Str → Prop := fun _ => False) (l : List PyData → Prop := fun _ => False) (t : List PyData → Prop := fun _ => False) (d : List (PyData × PyData) → Prop := fun _ => False) : Prop :=
  PyData.casesOn (motive_1 := fun _ => Prop) x n b i z l t d
def onInt (x : PyData) (k : Int → Prop) : Prop := byD x (i := k)
def onBool (x : PyData) (k : Bool → Prop) : Prop := byD x (b := k)
def onStr (x : PyData) (k : Str → Prop) : Prop := byD x (z := k)
def onNone (x : PyData) (k : Prop) : Prop := byD x (n := k)
def onTup (x : PyData) (k : List PyData → Prop) : Prop := byD x (t := k)
def onLst (x : PyData) (k : List PyData → Prop) : Prop := byD x (l := k)
def onSome {α : Type} (x : Option α) (k : α → Prop) : Prop := Option.casesOn (motive := fun _ => Prop) x False k
def onD (x : Option Sl) (k : PyData → Prop) : Prop := Option.casesOn (motive := fun _ => Prop) x False fun s => Sl.casesOn (motive := fun _ => Prop) s False k (fun _ => False) False
def onOwn (x : Option Sl) (k : List PyData → Prop) : Prop := Option.casesOn (motive := fun _ => Prop) x False fun s => Sl.casesOn (motive := fun _ => Prop) s False (fun _ => False) k False
def onDk (x : Option Sl) (k : Prop) : Prop := Option.casesOn (motive := fun _ => Prop) x False fun s => Sl.casesOn (motive := fun _ => Prop) s False (fun _ => False) (fun _ => False) k
def onNil (x : List PyData) (k : Prop) : Prop := List.casesOn (motive := fun _ => Prop) x k fun _ _ => False
def onCons (x : List PyData) (k : PyData → List PyData → Prop) : Prop := List.casesOn (motive := fun _ => Prop) x False k
def onOne (x : List PyData) (k : PyData → Prop) : Prop := onCons x fun a r => onNil r (k a)
def onTwo (x : List PyData) (k : PyData → PyData → Prop) : Prop := onCons x fun a r => onOne r (k a)
def iteB (b : Bool) (p q : Prop) : Prop := Bool.casesOn (motive := fun _ => Prop) b q p
theorem iteB_i {b : Bool} {p q : Prop} (h1 : b = true → p) (h2 : b = false → q) : iteB b p q := by
  cases b with
  | true => exact h1 rfl
  | false => exact h2 rfl
theorem iteB_t {b : Bool} {p q : Prop} (h : b = true) (k : p) : iteB b p q := by
  subst h
  exact k
theorem iteB_f {b : Bool} {p q : Prop} (h : b = false) (k : q) : iteB b p q := by
  subst h
  exact k
section
variable {x : PyData} {xs : List PyData} {o : Option Sl}
theorem inv_int {k : Int → Prop} (h : onInt x k) : ∃ i, x = .int i ∧ k i := by cases x <;> first | exact ⟨_, rfl, h⟩ | exact h.elim
theorem inv_bool {k : Bool → Prop} (h : onBool x k) : ∃ i, x = .bool i ∧ k i := by cases x <;> first | exact ⟨_, rfl, h⟩ | exact h.elim
theorem inv_str {k : Str → Prop} (h : onStr x k) : ∃ i, x = .str i ∧ k i := by cases x <;> first | exact ⟨_, rfl, h⟩ | exact h.elim
theorem inv_none {k : Prop} (h : onNone x k) : x = .none ∧ k := by cases x <;> first | exact ⟨rfl, h⟩ | exact h.elim
theorem inv_tup {k : List PyData → Prop} (h : onTup x k) : ∃ i, x = .tuple i ∧ k i := by cases x <;> first | exact ⟨_, rfl, h⟩ | exact h.elim
theorem inv_lst {k : List PyData → Prop} (h : onLst x k) : ∃ i, x = .list i ∧ k i := by cases x <;> first | exact ⟨_, rfl, h⟩ | exact h.elim
theorem inv_some {α : Type} {x : Option α} {k : α → Prop} (h : onSome x k) : ∃ i, x = some i ∧ k i := by cases x <;> first | exact ⟨_, rfl, h⟩ | exact h.elim
theorem inv_d {k : PyData → Prop} (h : onD o k) : ∃ i, o = some (.d i) ∧ k i := by
  cases o with
  | none => exact h.elim
  | some s => cases s <;> first | exact ⟨_, rfl, h⟩ | exact h.elim
theorem inv_own {k : List PyData → Prop} (h : onOwn o k) : ∃ i, o = some (.own i) ∧ k i := by
  cases o with
  | none => exact h.elim
  | some s => cases s <;> first | exact ⟨_, rfl, h⟩ | exact h.elim
theorem inv_dk {k : Prop} (h : onDk o k) : o = some .dk ∧ k := by
  cases o with
  | none => exact h.elim
  | some s => cases s <;> first | exact ⟨rfl, h⟩ | exact h.elim
theorem inv_one {k : PyData → Prop} (h : onOne xs k) : ∃ a, xs = [a] ∧ k a := by
  match xs, h with
  | [], h => exact h.elim
  | [a], h => exact ⟨a, rfl, h⟩
  | _ :: _ :: _, h => exact h.elim
theorem inv_two {k : PyData → PyData → Prop} (h : onTwo xs k) : ∃ a b, xs = [a, b] ∧ k a b := by
  match xs, h with
  | [], h => exact h.elim
  | [_], h => exact h.elim
  | [a, b], h => exact ⟨a, b, rfl, h⟩
  | _ :: _ :: _ :: _, h => exact h.elim
theorem inv_nil {k : Prop} (h : onNil xs k) : xs = [] ∧ k := by
  match xs, h with
  | [], h => exact ⟨rfl, h⟩
  | _ :: _, h => exact h.elim
theorem inv_cons {k : PyData → List PyData → Prop} (h : onCons xs k) : ∃ a b, xs = a :: b ∧ k a b := by
  match xs, h with
  | [], h => exact h.elim
  | a :: b, h => exact ⟨a, b, rfl, h⟩
end
/-! the readings -/
def dVar (i : Nat) : DE := fun ρ Q => onD ρ[i]? Q
def dC (x : PyData) : DE := fun _ Q => Q x
def dNil : DA := fun _ Q => Q []
def dCons (t : DE) (u : DA) : DA := fun ρ Q => t ρ fun x => u ρ fun xs => Q (x :: xs)
def dTup (t : DA) : DE := fun ρ Q => t ρ fun xs => xs.length ≤ 1000 ∧ Q (.tuple xs)
def dLst (t : DA) : DE := fun ρ Q => t ρ fun xs => xs.length ≤ 1000 ∧ Q (.list xs)
def dOp (r : R2d) (t u : DE) : DE := fun ρ Q => t ρ fun x => u ρ fun y => r x y Q
def dUn (r : R1d) (t : DE) : DE := fun ρ Q => t ρ fun x => r x Q
def dCB (r : RNd) (t : DA) : DE := fun ρ Q => t ρ fun xs => r xs Q
def dTB (t : DE) : DT := fun ρ Q => t ρ fun x => onBool x Q
def dTNot (t : DT) : DT := fun ρ Q => t ρ fun b => Q (!b)
def dTAnd (t u : DT) : DT := fun ρ Q => t ρ fun b => iteB b (u ρ Q) (Q false)
def dTOr (t u : DT) : DT := fun ρ Q => t ρ fun b => iteB b (Q true) (u ρ Q)
def dTYes : DT := fun _ Q => Q true
def dAnd (t u : DE) : DE := fun ρ Q => t ρ fun x => onBool x fun b => iteB b (u ρ Q) (Q (.bool false))
def dOr (t u : DE) : DE := fun ρ Q => t ρ fun x => onBool x fun b => iteB b (Q (.bool true)) (u ρ Q)
def dNot (t : DE) : DE := fun ρ Q => t ρ fun x => onBool x fun b => Q (.bool (!b))
def dIf (c : DT) (t u : DE) : DE := fun ρ Q => c ρ fun b => iteB b (t ρ Q) (u ρ Q)
def dNoPart : DO := fun _ Q => Q none
def dPart (t : DE) : DO := fun ρ Q => t ρ fun x => onInt x fun i => Q (some i)
def dSl (r : PyData → Option Int → Option Int → (PyData → Prop) → Prop) (t : DE) (lo hi : DO) : DE := fun ρ Q => t ρ fun x => lo ρ fun l => hi ρ fun u => r x l u Q
section
variable {f : Fx} {ta tb : TE} {da db : DE} {tA tB' : TT} {dA dB : DT} {sa : TA} {ea : DA}
theorem se_var {i : Nat} : SE f (tVar i) (dVar i) := fun L σ H ρ Q R r h k => by
  replace h := inv_d h
  obtain ⟨x, e, q⟩ := h
  obtain ⟨o, eo, v, rfl, d⟩ := r.sl i _ e
  exact ⟨v, eo, k v H x r.self d q⟩
theorem se_c {v : V} {x : PyData} (h : ∀ F H, Dd F H v x) : SE f (tC v) (dC x) := fun L σ H ρ Q R r q k => k v H x r.self (h _ _) q
theorem se_int {i : Int} : SE f (tC (.int i)) (dC (.int i)) := se_c fun _ _ => .int i
theorem se_bl {i : Bool} : SE f (tC (.bl i)) (dC (.bool i)) := se_c fun _ _ => .bl i
theorem se_str {i : Str} : SE f (tC (.str i)) (dC (.str i)) := se_c fun _ _ => .str i
theorem se_non : SE f (tC .non) (dC .none) := se_c fun _ _ => .non
theorem sa_nil : SA f tNil dNil := fun L σ H ρ Q R r q k => k [] H [] r.self .nil q
theorem sa_cons (h1 : SE f ta da) (h2 : SA f sa ea) : SA f (tCons ta sa) (dCons da ea) := fun L σ H ρ Q R r q k =>
  h1 L σ H ρ _ _ r q fun v H1 x g d q => h2 L σ H1 ρ _ _ (r.mv g) q fun vs H2 xs g2 ds q => k _ _ _ (g.trans g2) (.cons ((r.mv g).dd g2 d) ds) q
theorem se_tup (h : SA f sa ea) : SE f (tTup sa) (dTup ea) := fun L σ H ρ Q R r q k =>
  h L σ H ρ _ _ r q fun vs H1 xs g d q => by
    have r1 := r.mv g
    refine ⟨by rw [d.length]; exact Nat.le_trans q.1 (by decide), fun p np => k _ _ _ (g.new np) ?_ q.2⟩
    exact .tup upd_same (r1.dds (r1.new np) d)
theorem se_lst (h : SA f sa ea) : SE f (tLst sa) (dLst ea) := fun L σ H ρ Q R r q k =>
  h L σ H ρ _ _ r q fun vs H1 xs g d q => by
    have r1 := r.mv g
    refine ⟨by rw [d.length]; exact Nat.le_trans q.1 (by decide), fun p np => k _ _ _ (g.new np) ?_ q.2⟩
    exact .lst (r1.opn np) upd_same (r1.dds (r1.new np) d)
theorem se_op {r : R2} {d : R2d} (h : S2 f r d) (h1 : SE f ta da) (h2 : SE f tb db) : SE f (tOp r ta tb) (dOp d da db) := fun L σ H ρ Q R r q k =>
  h1 L σ H ρ _ _ r q fun v H1 x g dx q => h2 L σ H1 ρ _ _ (r.mv g) q fun u H2 y g2 dy q => h L σ H2 ρ v u x y Q _ (r.mv (g.trans g2)) ((r.mv g).dd g2 dx) dy q fun w H3 z g3 dz q => k w H3 z ((g.trans g2).trans g3) dz q
theorem se_un {r : V → Hp → VK → Prop} {d : R1d} (h : S1 f r d) (h1 : SE f ta da) : SE f (tUn r ta) (dUn d da) := fun L σ H ρ Q R r q k =>
  h1 L σ H ρ _ _ r q fun v H1 x g dx q => h L σ H1 ρ v x Q _ (r.mv g) dx q fun w H3 z g3 dz q => k w H3 z (g.trans g3) dz q
theorem se_cb {r : List V → Hp → VK → Prop} {d : RNd} (h : SN f r d) (h1 : SA f sa ea) : SE f (tCB r sa) (dCB d ea) := fun L σ H ρ Q R r q k =>
  h1 L σ H ρ _ _ r q fun v H1 x g dx q => h L σ H1 ρ v x Q _ (r.mv g) dx q fun w H3 z g3 dz q => k w H3 z (g.trans g3) dz q
theorem st_b (h : SE f ta da) : ST f (tB ta) (dTB da) := fun L σ H ρ Q R r q k =>
  h L σ H ρ _ _ r q fun v H1 x g dx q => by
    replace q := inv_bool q
    obtain ⟨b, rfl, q⟩ := q
    cases dx
    exact ⟨b, rfl, k b H1 g q⟩
theorem st_test (h : SE f ta da) : ST f (tTest ta) (dTB da) := fun L σ H ρ Q R r q k =>
  h L σ H ρ _ _ r q fun v H1 x g dx q => by
    replace q := inv_bool q
    obtain ⟨b, rfl, q⟩ := q
    cases dx
    exact ⟨b, rfl, k b H1 g q⟩
theorem st_not (h : ST f tA dA) : ST f (tNot tA) (dTNot dA) := fun L σ H ρ Q R r q k => h L σ H ρ _ _ r q fun b H1 g q => k _ H1 g q
theorem st_and (h : ST f tA dA) (h2 : ST f tB' dB) : ST f (tAnd tA tB') (dTAnd dA dB) := fun L σ H ρ Q R r q k =>
  h L σ H ρ _ _ r q fun b H1 g q => by
    cases b with
    | true => exact h2 L σ H1 ρ _ _ (r.mv g) q fun c H2 g2 q => k c H2 (g.trans g2) q
    | false => exact k false H1 g q
theorem st_or (h : ST f tA dA) (h2 : ST f tB' dB) : ST f (tOr tA tB') (dTOr dA dB) := fun L σ H ρ Q R r q k =>
  h L σ H ρ _ _ r q fun b H1 g q => by
    cases b with
    | false => exact h2 L σ H1 ρ _ _ (r.mv g) q fun c H2 g2 q => k c H2 (g.trans g2) q
    | true => exact k true H1 g q
theorem st_yes : ST f tYes dTYes := fun L σ H ρ Q R r q k => k true H r.self q
theorem se_and (h : SE f ta da) (h2 : SE f tb db) : SE f (tAndV ta tb) (dAnd da db) := fun L σ H ρ Q R r q k =>
  h L σ H ρ _ _ r q fun v H1 x g dx q => by
    replace q := inv_bool q
    obtain ⟨b, rfl, q⟩ := q
    cases dx
    refine ⟨b, rfl, ?_⟩
    cases b with
    | true => exact h2 L σ H1 ρ _ _ (r.mv g) q fun c H2 y g2 d2 q => k c H2 y (g.trans g2) d2 q
    | false => exact k _ H1 _ g (.bl false) q
theorem se_or (h : SE f ta da) (h2 : SE f tb db) : SE f (tOrV ta tb) (dOr da db) := fun L σ H ρ Q R r q k =>
  h L σ H ρ _ _ r q fun v H1 x g dx q => by
    replace q := inv_bool q
    obtain ⟨b, rfl, q⟩ := q
    cases dx
    refine ⟨b, rfl, ?_⟩
    cases b with
    | false => exact h2 L σ H1 ρ _ _ (r.mv g) q fun c H2 y g2 d2 q => k c H2 y (g.trans g2) d2 q
    | true => exact k _ H1 _ g (.bl true) q
theorem se_not (h : SE f ta da) : SE f (tNotV ta) (dNot da) := fun L σ H ρ Q R r q k =>
  h L σ H ρ _ _ r q fun v H1 x g dx q => by
    replace q := inv_bool q
    obtain ⟨b, rfl, q⟩ := q
    cases dx
    exact ⟨b, rfl, k _ H1 _ g (.bl _) q⟩
theorem se_if (h : ST f tA dA) (h1 : SE f ta da) (h2 : SE f tb db) : SE f (tIf tA ta tb) (dIf dA da db) := fun L σ H ρ Q R r q k =>
  h L σ H ρ _ _ r q fun b H1 g q => by
    cases b with
    | true => exact h1 L σ H1 ρ _ _ (r.mv g) q fun c H2 y g2 d2 q => k c H2 y (g.trans g2) d2 q
    | false => exact h2 L σ H1 ρ _ _ (r.mv g) q fun c H2 y g2 d2 q => k c H2 y (g.trans g2) d2 q
theorem so_none : SO f tNoPart dNoPart := fun L σ H ρ Q R r q k => k none H r.self q
theorem so_some (h : SE f ta da) : SO f (tPart ta) (dPart da) := fun L σ H ρ Q R r q k =>
  h L σ H ρ _ _ r q fun v H1 x g dx q => by
    replace q := inv_int q
    obtain ⟨i, rfl, q⟩ := q
    cases dx
    exact ⟨i, rfl, k _ H1 g q⟩
def S3 (f : Fx) (r : V → Option Int → Option Int → Hp → VK → Prop) (t : PyData → Option Int → Option Int → (PyData → Prop) → Prop) : Prop := ∀ (L : List Addr) (σ : L2.St) (H : Hp) (ρ : Env) (v : V) (x : PyData) (lo hi : Option Int) (Q : PyData → Prop) (R : VK), Rel f L σ H ρ → Dd (Fr f L) H v x → t x lo hi Q → (∀ w H' z, Go f H H' → Dd (Fr f L) H' w z → Q z → R w H') → r v lo hi H R
theorem se_sl {r : V → Option Int → Option Int → Hp → VK → Prop} {d : PyData → Option Int → Option Int → (PyData → Prop) → Prop} {tl th : TO} {dl dh : DO} (h : S3 f r d) (h0 : SE f ta da) (h1 : SO f tl dl) (h2 : SO f th dh) : SE f (tSl r ta tl th) (dSl d da dl dh) := fun L σ H ρ Q R r q k =>
  h0 L σ H ρ _ _ r q fun v H1 x g dx q => h1 L σ H1 ρ _ _ (r.mv g) q fun lo H2 g2 q => h2 L σ H2 ρ _ _ ((r.mv g).mv g2) q fun hi H3 g3 q =>
    h L σ H3 ρ v x lo hi Q _ (r.mv ((g.trans g2).trans g3)) ((r.mv g).dd (g2.trans g3) dx) q fun w H4 z g4 dz q => k w H4 z (((g.trans g2).trans g3).trans g4) dz q
/-! ### operators -/
def rdI (C : Int → Int → Prop) (g : Int → Int → PyData) : R2d := fun x y Q => onInt x fun i => onInt y fun j => C i j ∧ Q (g i j)
def rdI0 (g : Int → Int → PyData) : R2d := fun x y Q => onInt x fun i => onInt y fun j => Q (g i j)
theorem s2_I {C : Int → Int → Prop} {g : Int → Int → V} {d : Int → Int → PyData} (h : ∀ i j F H, Dd F H (g i j) (d i j)) : S2 f (rI C g) (rdI C d) := fun L σ H ρ v u x y Q R r dx dy q k => by
  replace q := inv_int q
  obtain ⟨i, rfl, q⟩ := q
  replace q := inv_int q
  obtain ⟨j, rfl, c, q⟩ := q
  cases dx
  cases dy
  exact ⟨i, j, rfl, rfl, c, k _ H _ r.self (h _ _ _ _) q⟩
theorem s2_I0 {g : Int → Int → V} {d : Int → Int → PyData} (h : ∀ i j F H, Dd F H (g i j) (d i j)) : S2 f (rI0 g) (rdI0 d) := fun L σ H ρ v u x y Q R r dx dy q k => by
  replace q := inv_int q
  obtain ⟨i, rfl, q⟩ := q
  replace q := inv_int q
  obtain ⟨j, rfl, q⟩ := q
  cases dx
  cases dy
  exact ⟨i, j, rfl, rfl, k _ H _ r.self (h _ _ _ _) q⟩
theorem S2.or {r r' : R2} {d d' : R2d} (h : S2 f r d) (h' : S2 f r' d') : S2 f (fun x y H Q => r x y H Q ∨ r' x y H Q) (fun x y Q => d x y Q ∨ d' x y Q) := fun L σ H ρ v u x y Q R r dx dy q k => by
  rcases q with q | q
  · exact .inl (h L σ H ρ v u x y Q R r dx dy q k)
  · exact .inr (h' L σ H ρ v u x y Q R r dx dy q k)
theorem S2.imp {r : R2} {d d' : R2d} (h : S2 f r d) (i : ∀ x y Q, d' x y Q → d x y Q) : S2 f r d' := fun L σ H ρ v u x y Q R r dx dy q k => h L σ H ρ v u x y Q R r dx dy (i _ _ _ q) k
theorem SN.imp {r : List V → Hp → VK → Prop} {d d' : RNd} (h : SN f r d) (i : ∀ x Q, d' x Q → d x Q) : SN f r d' := fun L σ H ρ v x Q R r dx q k => h L σ H ρ v x Q R r dx (i _ _ q) k
theorem SN.or {r r' : List V → Hp → VK → Prop} {d d' : RNd} (h : SN f r d) (h' : SN f r' d') : SN f (fun x H Q => r x H Q ∨ r' x H Q) (fun x Q => d x Q ∨ d' x Q) := fun L σ H ρ v x Q R r dx q k => by
  rcases q with q | q
  · exact .inl (h L σ H ρ v x Q R r dx q k)
  · exact .inr (h' L σ H ρ v x Q R r dx q k)
/-- + -/
def rAdd (K : PySem.W.Frag) : R2 := fun x y H Q => rI0 (fun i j => .int (i + j)) x y H Q ∨ rCatA K x y H Q ∨ rCat x y H Q ∨ ∃ i j, x = .str i ∧ y = .str j ∧ i.length + j.length ≤ sizeLine ∧ Q (.str (i ++ j)) H
theorem op_addA {X : Cx} : OpR X (binaryOp .Add) (rAdd X.K) := op_add.or (op_catA.or (op_cat.or op_add_str))
def dAddF : R2d := fun x y Q => byD x (i := fun i => onInt y fun j => Q (.int (i + j))) (t := fun xs => onTup y fun ys => xs.length + ys.length ≤ 100000 ∧ Q (.tuple (xs ++ ys)))
  (l := fun xs => onLst y fun ys => xs.length + ys.length ≤ 100000 ∧ Q (.list (xs ++ ys))) (z := fun a => onStr y fun b => a.length + b.length ≤ 100000 ∧ Q (.str (a ++ b)))
theorem dds_app {F : Addr → Prop} {H : Hp} : ∀ {vs us : List V} {xs ys : List PyData}, DdAll F H vs xs → DdAll F H us ys → DdAll F H (vs ++ us) (xs ++ ys)
  | _, _, _, _, .nil, b => b
  | _, _, _, _, .cons a r, b => .cons a (dds_app r b)
theorem s2_add {K : PySem.W.Frag} : S2 f (rAdd K) dAddF := fun L σ H ρ v u x y Q R r dx dy q k => by
  cases dx with
  | int i =>
    cases dy with
    | int j => exact .inl ⟨i, j, rfl, rfl, k _ H _ r.self (.int _) q⟩
    | _ => exact q.elim
  | str i =>
    cases dy with
    | str j => exact .inr (.inr (.inr ⟨i, j, rfl, rfl, Nat.le_trans q.1 (by decide), k _ H _ r.self (.str _) q.2⟩))
    | _ => exact q.elim
  | tup ea a =>
    cases dy with
    | tup eb b =>
      have hl := a.length
      have hl2 := b.length
      refine .inr (.inl ⟨_, _, _, _, rfl, rfl, SqT.of ea, SqT.of eb, by rw [hl, hl2]; exact Nat.le_trans q.1 (by decide), fun h => ?_, fun _ h => ?_, fun _ _ p np => ?_⟩)
      · subst h
        cases a
        exact k _ H _ r.self (.tup eb b) q.2
      · subst h
        cases b
        refine k _ H _ r.self (.tup ea a) ?_
        have q2 := q.2
        rwa [List.append_nil] at q2
      · exact k _ _ _ (r.new np) (.tup upd_same (r.dds (r.new np) (dds_app a b))) q.2
    | _ => exact q.elim
  | lst fa ea a =>
    cases dy with
    | lst fb eb b =>
      have hl := a.length
      have hl2 := b.length
      refine .inr (.inr (.inl ⟨_, _, _, _, rfl, rfl, ea, eb, by rw [hl, hl2]; exact Nat.le_trans q.1 (by decide), fun p np => ?_⟩))
      exact k _ _ _ (r.new np) (.lst (r.opn np) upd_same (r.dds (r.new np) (dds_app a b))) q.2
    | _ => exact q.elim
  | _ => exact q.elim
theorem s2_sub : S2 f (rI0 fun i j => .int (i - j)) (rdI0 fun i j => .int (i - j)) := s2_I0 fun _ _ _ _ => .int _
theorem s2_mul : S2 f (rI CMulW fun i j => .int (i * j)) (rdI CMulW fun i j => .int (i * j)) := s2_I fun _ _ _ _ => .int _
theorem s2_mod : S2 f (rI (fun _ j => 0 < j) fun i j => .int (i % j)) (rdI (fun _ j => 0 < j) fun i j => .int (i % j)) := s2_I fun _ _ _ _ => .int _
theorem s2_div : S2 f (rI CDivW fun i j => .int (i / j)) (rdI CDivW fun i j => .int (i / j)) := s2_I fun _ _ _ _ => .int _
theorem s2_lt : S2 f (rI0 fun i j => .bl (decide (i < j))) (rdI0 fun i j => .bool (decide (i < j))) := s2_I0 fun _ _ _ _ => .bl _
theorem s2_le : S2 f (rI0 fun i j => .bl (decide (i ≤ j))) (rdI0 fun i j => .bool (decide (i ≤ j))) := s2_I0 fun _ _ _ _ => .bl _
theorem s2_gt : S2 f (rI0 fun i j => .bl (decide (j < i))) (rdI0 fun i j => .bool (decide (j < i))) := s2_I0 fun _ _ _ _ => .bl _
theorem s2_ge : S2 f (rI0 fun i j => .bl (decide (j ≤ i))) (rdI0 fun i j => .bool (decide (j ≤ i))) := s2_I0 fun _ _ _ _ => .bl _
theorem s1_neg : S1 f (rU fun i => .int (-i)) (fun x Q => onInt x fun i => Q (.int (-i))) := fun L σ H ρ v x Q R r dx q k => by
  replace q := inv_int q
  obtain ⟨i, rfl, q⟩ := q
  cases dx
  exact ⟨i, rfl, k _ H _ r.self (.int _) q⟩
/-! == -/
mutual
theorem Dd.dp {K : PySem.W.Frag} {F : Addr → Prop} {H : Hp} : ∀ {v : V} {d : PyData}, Dd F H v d → d.canLay0 = true → Dp K H v d
  | _, _, .non, _ => .non
  | _, _, .bl b, _ => .bl b
  | _, _, .int i, _ => .int i
  | _, _, .str x, _ => .str x
  | _, _, .lst f e r, h => .lst (SqL.of e) (DdAll.dp r (by simpa [PyData.canLay0] using h))
  | _, _, .tup e r, h => .tup (SqT.of e) (DdAll.dp r (by simpa [PyData.canLay0] using h))
  | _, _, .dic f e r, h => by simp [PyData.canLay0] at h
theorem DdAll.dp {K : PySem.W.Frag} {F : Addr → Prop} {H : Hp} : ∀ {vs : List V} {ds : List PyData}, DdAll F H vs ds → PyData.canLayAll0 ds = true → DpAll K H vs ds
  | _, _, .nil, _ => .nil
  | _, _, .cons a b, h => by
    simp only [PyData.canLayAll0, Bool.and_eq_true] at h
    exact .cons (Dd.dp a h.1) (DdAll.dp b h.2)
end
theorem lay_of {d : PyData} (h : SeqAt.shaped d = true) : d.canLay0 = true := by
  unfold SeqAt.shaped at h
  rw [Bool.and_eq_true] at h
  exact h.1
def dEqF : R2d := fun x y Q => SeqAt.shaped x = true ∧ SeqAt.shaped y = true ∧ Q (.bool (PyData.eqv x y))
def dNeF : R2d := fun x y Q => SeqAt.shaped x = true ∧ SeqAt.shaped y = true ∧ Q (.bool (!PyData.eqv x y))
theorem s2_eq {K : PySem.W.Frag} : S2 f (rEqD K) dEqF := fun L σ H ρ v u x y Q R r dx dy q k => by
  obtain ⟨a, b, q⟩ := q
  exact ⟨x, y, dx.dp (lay_of a), dy.dp (lay_of b), a, b, k _ H _ r.self (.bl _) q⟩
theorem s2_ne {K : PySem.W.Frag} : S2 f (rNeD K) dNeF := fun L σ H ρ v u x y Q R r dx dy q k => by
  obtain ⟨a, b, q⟩ := q
  exact ⟨x, y, dx.dp (lay_of a), dy.dp (lay_of b), a, b, k _ H _ r.self (.bl _) q⟩
/-! is None, is True -/
def isNone : PyData → Bool
  | .none => true
  | _ => false
def dIsN : R2d := fun x y Q => onNone y (Q (.bool (isNone x)))
def dNotN : R2d := fun x y Q => onNone y (Q (.bool (!isNone x)))
theorem isNone_dd {F : Addr → Prop} {H : Hp} {v : V} {x : PyData} (d : Dd F H v x) : decide (v = V.non) = isNone x := by
  cases d <;> simp [isNone]
theorem s2_isN : S2 f (fun x y H Q => y = .non ∧ Q (.bl (decide (x = .non))) H) dIsN := fun L σ H ρ v u x y Q R r dx dy q k => by
  replace q := inv_none q
  obtain ⟨rfl, q⟩ := q
  cases dy
  refine ⟨rfl, ?_⟩
  rw [isNone_dd dx]
  exact k _ H _ r.self (.bl _) q
theorem s2_notN : S2 f (fun x y H Q => y = .non ∧ Q (.bl (!decide (x = .non))) H) dNotN := fun L σ H ρ v u x y Q R r dx dy q k => by
  replace q := inv_none q
  obtain ⟨rfl, q⟩ := q
  cases dy
  refine ⟨rfl, ?_⟩
  rw [isNone_dd dx]
  exact k _ H _ r.self (.bl _) q
/-! items -/
theorem dds_get {F : Addr → Prop} {H : Hp} : ∀ {vs : List V} {xs : List PyData} {i : Nat} {x : PyData}, DdAll F H vs xs → xs[i]? = some x → ∃ v, vs[i]? = some v ∧ Dd F H v x
  | _, _, _, _, .nil, h => by simp at h
  | _, _, 0, _, .cons a _, h => by
    cases h
    exact ⟨_, rfl, a⟩
  | _, _, i + 1, _, .cons _ b, h => by
    obtain ⟨e, h1, h2⟩ := dds_get (i := i) b (by simpa using h)
    exact ⟨e, by simpa using h1, h2⟩
theorem dds_at {F : Addr → Prop} {H : Hp} {vs : List V} {xs : List PyData} {i : Int} {x : PyData} (d : DdAll F H vs xs) (h : atI xs i = some x) : ∃ v, atI vs i = some v ∧ Dd F H v x := by
  unfold atI at h ⊢
  rw [d.length]
  cases e : ixN xs.length i with
  | none =>
    rw [e] at h
    cases h
  | some j =>
    rw [e] at h
    exact dds_get d h
def dIxF : R2d := fun x y Q => byD x (t := fun xs => onInt y fun i => onSome (atI xs i) Q) (l := fun xs => onInt y fun i => onSome (atI xs i) Q)
  (z := fun s => onInt y fun i => s.length ≤ 100000 ∧ onSome (atI s.cps.toList i) fun c => Q (.str ⟨#[c]⟩))
theorem s2_ix {K : PySem.W.Frag} : S2 f (rIx K) dIxF := fun L σ H ρ v u x y Q R r dx dy q k => by
  cases dx with
  | tup ea a =>
    cases dy with
    | int i =>
      replace q := inv_some q
      obtain ⟨z, e, q⟩ := q
      obtain ⟨w, ew, dz⟩ := dds_at a e
      exact .inr (.inl ⟨_, _, i, w, rfl, rfl, SqT.of ea, ew, k w H z r.self dz q⟩)
    | _ => exact q.elim
  | lst fa ea a =>
    cases dy with
    | int i =>
      replace q := inv_some q
      obtain ⟨z, e, q⟩ := q
      obtain ⟨w, ew, dz⟩ := dds_at a e
      exact .inl ⟨_, _, i, w, rfl, rfl, SqL.of ea, ew, k w H z r.self dz q⟩
    | _ => exact q.elim
  | str s =>
    cases dy with
    | int i =>
      obtain ⟨hz, q⟩ := q
      replace q := inv_some q
      obtain ⟨c, e, q⟩ := q
      exact .inr (.inr ⟨s, i, c, rfl, rfl, Nat.le_trans hz (by decide), e, k _ H _ r.self (.str _) q⟩)
    | _ => exact q.elim
  | _ => exact q.elim
/-! slices -/
def cutD (xs : List PyData) (lo hi : Option Int) : List PyData := (xs.drop (HT.sIx xs.length 0 lo)).take (HT.sIx xs.length xs.length hi - HT.sIx xs.length 0 lo)
theorem dds_take {F : Addr → Prop} {H : Hp} : ∀ (n : Nat) {vs : List V} {xs : List PyData}, DdAll F H vs xs → DdAll F H (vs.take n) (xs.take n)
  | 0, _, _, _ => .nil
  | _ + 1, _, _, .nil => .nil
  | n + 1, _, _, .cons a b => .cons a (dds_take n b)
theorem dds_drop {F : Addr → Prop} {H : Hp} : ∀ (n : Nat) {vs : List V} {xs : List PyData}, DdAll F H vs xs → DdAll F H (vs.drop n) (xs.drop n)
  | 0, _, _, d => d
  | _ + 1, _, _, .nil => .nil
  | n + 1, _, _, .cons _ b => dds_drop n b
theorem dds_cut {F : Addr → Prop} {H : Hp} {vs : List V} {xs : List PyData} {lo hi : Option Int} (d : DdAll F H vs xs) : DdAll F H (cutV vs lo hi) (cutD xs lo hi) := by
  unfold cutV cutD
  rw [d.length]
  exact dds_take _ (dds_drop _ d)
theorem cut_all {α : Type} {xs : List α} {lo hi : Nat} (h : lo = 0 ∧ hi = xs.length) : (xs.drop lo).take (hi - lo) = xs := by
  obtain ⟨rfl, rfl⟩ := h
  simp
def dSlF : PyData → Option Int → Option Int → (PyData → Prop) → Prop := fun x lo hi Q => byD x (t := fun xs => Q (.tuple (cutD xs lo hi))) (l := fun xs => Q (.list (cutD xs lo hi)))
def rSlF (K : PySem.W.Frag) : V → Option Int → Option Int → Hp → VK → Prop := fun x lo hi H Q => rSlA K x lo hi H Q ∨ rSlL K x lo hi H Q
theorem sl_any {X : Cx} : L2.SlR X (rSlF X.K) := sl_tupA.or sl_list
theorem s3_sl {K : PySem.W.Frag} : S3 f (rSlF K) dSlF := fun L σ H ρ v x lo hi Q R r dx q k => by
  cases dx with
  | tup ea a =>
    have hl := a.length
    refine .inl ⟨_, _, rfl, SqT.of ea, fun h => ?_, fun _ p np => ?_⟩
    · refine k _ H _ r.self (.tup ea a) ?_
      rw [hl] at h
      have e := cut_all h
      show Q (.tuple _)
      rw [← e]
      exact q
    · exact k _ _ _ (r.new np) (.tup upd_same (r.dds (r.new np) (dds_cut a))) q
  | lst fa ea a =>
    exact .inr ⟨_, _, rfl, SqL.of ea, fun p np => k _ _ _ (r.new np) (.lst (r.opn np) upd_same (r.dds (r.new np) (dds_cut a))) q⟩
  | _ => exact q.elim
end
end Ey
/-! ### calls over data -/
namespace Ey
open PySem PySem.Spec PyProof.Rows L2
def nothing : Str → PyData → Prop := fun _ _ => False
/-- a def's promise over data: k: its first argument is the deck -/
def spD (k : Bool) (cl : Str → Addr) (m : Md) : Sp := fun vs H Q E => ∃ (f : Fx) (ds : List PyData) (Qd : PyData → Prop) (us : List V), f.Ok ∧ f.H0 = H ∧ f.E = E ∧ f.cl = cl ∧
  (if k = true then ∃ d l, f.D = some (d, l) ∧ vs = .ref d :: us else f.D = none ∧ vs = us) ∧ DdAll f.F0 H us ds ∧ m ds Qd f.Ed ∧ ∀ v H' x, Go f H H' → Dd f.F0 H' v x → Qd x → Q v H'
def dCall (m : Md) (Ed : Str → PyData → Prop) (t : DA) : DE := fun ρ Q => t ρ fun xs => m xs Q Ed
def dCallK (i : Nat) (m : Md) (Ed : Str → PyData → Prop) (t : DA) : DE := fun ρ Q => onDk ρ[i]? (t ρ fun xs => m xs Q Ed)
def dCallKw (n : Nat) (o : List Nat) (m : Md) (Ed : Str → PyData → Prop) (t : DA) : DE := fun ρ Q => t ρ fun xs => xs.length = n ∧ m (o.map fun i => xs.getD i .none) Q Ed
section
variable {f : Fx} {ta tb : TE} {da db : DE} {tA tB' : TT} {dA dB : DT} {sa : TA} {ea : DA} {m : Md}
theorem ex_of {g : Fx} {H H' : Hp} (h : g.D = none) (k : Go g H H') : Evl.Ex H H' := fun a o e => k.kp a o e fun d l ed => by
  rw [h] at ed
  cases ed
/-- the callee's frame -/
def Fx.sub (f : Fx) (L : List Addr) (H : Hp) (k : Bool) (E : XK) (Ed : Str → PyData → Prop) : Fx := ⟨H, Fr f L, if k = true then f.D else none, f.cl, E, Ed⟩
theorem sub_go {L : List Addr} {H H1 H' : Hp} {k : Bool} {E : XK} {Ed : Str → PyData → Prop} (d : f.deck H1) (g : Go (f.sub L H k E Ed) H1 H') : Go f H1 H' := by
  cases k with
  | true => exact ⟨g.kp, g.dk⟩
  | false => exact Go.of d (ex_of rfl g)
theorem sub_ok {L : List Addr} {σ : L2.St} {H : Hp} {ρ : Env} {k : Bool} {E : XK} {Ed : Str → PyData → Prop} (r : Rel f L σ H ρ)
    (h : ∀ c x a v H', Ed c x → Go f f.H0 H' → f.H0 a = none → H' a = some (.xd [(fldOf c, v)]) → Dd f.F0 H' v x → E (.ref (f.cl c)) (some a) H') : (f.sub L H k E Ed).Ok := by
  refine ⟨fun b n => r.opn n, fun b h => ?_, ?_, fun c x a v H' e g n e2 d => ?_⟩
  · cases k with
    | true => exact r.ok.off b h.1
    | false => exact fun d l ed => by cases ed
  · cases k with
    | true => exact r.deck
    | false => exact fun d l ed => by cases ed
  · exact h c x a v H' e (r.go.trans (sub_go r.deck g)) (r.fresh n) e2 (dd_weak d)
theorem call_core {L : List Addr} {σ : L2.St} {H : Hp} {ρ : Env} {k : Bool} {E : XK} {Ed : Str → PyData → Prop} {cl : Str → Addr} (hcl : f.cl = cl) {Q : PyData → Prop} {R : VK} {us : List V} {xs : List PyData} (r : Rel f L σ H ρ)
    (h : ∀ c x a v H', Ed c x → Go f f.H0 H' → f.H0 a = none → H' a = some (.xd [(fldOf c, v)]) → Dd f.F0 H' v x → E (.ref (f.cl c)) (some a) H')
    (vs : List V) (hv : if k = true then ∃ d l, f.D = some (d, l) ∧ vs = .ref d :: us else vs = us) (d : DdAll (Fr f L) H us xs) (q : m xs Q Ed) (c : ∀ w H' z, Go f H H' → Dd (Fr f L) H' w z → Q z → R w H') : spD k cl m vs H R E := by
  refine ⟨f.sub L H k E Ed, xs, Q, us, sub_ok r h, rfl, rfl, hcl, ?_, d, q, fun v H' x g d q => c v H' x (sub_go r.deck g) d q⟩
  cases k with
  | true => exact hv
  | false => exact ⟨rfl, hv⟩
theorem se_call {cl : Str → Addr} {E : XK} (hE : f.E = E) (hcl : f.cl = cl) (h : SA f sa ea) : SE f (tCall (spD false cl m) [] E sa) (dCall m f.Ed ea) := fun L σ H ρ Q R r q k => by
  subst hE
  exact
  h L σ H ρ _ _ r q fun vs H1 xs g d q => by
    rw [List.append_nil]
    exact call_core hcl (r.mv g) r.ok.ex vs rfl d q fun w H2 z g2 dz q => k w H2 z (g.trans g2) dz q
theorem se_callF {cl : Str → Addr} (hcl : f.cl = cl) (h : SA f sa ea) : SE f (tCall (spD false cl m) [] (fun _ _ _ => False) sa) (dCall m nothing ea) := fun L σ H ρ Q R r q k =>
  h L σ H ρ _ _ r q fun vs H1 xs g d q => by
    rw [List.append_nil]
    exact call_core hcl (r.mv g) (fun _ _ _ _ _ e => e.elim) vs rfl d q fun w H2 z g2 dz q => k w H2 z (g.trans g2) dz q
theorem se_callK {cl : Str → Addr} {i : Nat} (hcl : f.cl = cl) (h : SA f sa ea) : SE f (tCall (spD true cl m) [] (fun _ _ _ => False) (tCons (tVar i) sa)) (dCallK i m nothing ea) := fun L σ H ρ Q R r q k => by
  replace q := inv_dk q
  obtain ⟨e, q⟩ := q
  obtain ⟨o, eo, d0, l0, eD, rfl⟩ := r.sl i _ e
  refine ⟨_, eo, h L σ H ρ _ _ r q fun vs H1 xs g d q => ?_⟩
  show spD true cl m ((.ref d0 :: vs) ++ []) H1 R _
  rw [List.append_nil]
  exact call_core hcl (r.mv g) (fun _ _ _ _ _ e => e.elim) _ ⟨d0, l0, eD, rfl⟩ d q fun w H2 z g2 dz q => k w H2 z (g.trans g2) dz q
theorem dds_getD {F : Addr → Prop} {H : Hp} {vs : List V} {xs : List PyData} (d : DdAll F H vs xs) (i : Nat) : Dd F H (vs.getD i .non) (xs.getD i .none) := by
  rw [List.getD_eq_getElem?_getD, List.getD_eq_getElem?_getD]
  cases e : xs[i]? with
  | none =>
    have : vs[i]? = none := by
      rw [List.getElem?_eq_none_iff] at e ⊢
      rw [d.length]
      exact e
    rw [this]
    exact .non
  | some x =>
    obtain ⟨v, ev, dv⟩ := dds_get d e
    rw [ev]
    exact dv
theorem dds_perm {F : Addr → Prop} {H : Hp} {vs : List V} {xs : List PyData} (d : DdAll F H vs xs) : ∀ o : List Nat, DdAll F H (o.map fun i => vs.getD i .non) (o.map fun i => xs.getD i .none)
  | [] => .nil
  | i :: o => .cons (dds_getD d i) (dds_perm d o)
theorem se_callKw {cl : Str → Addr} {E : XK} {n : Nat} {o : List Nat} (hE : f.E = E) (hcl : f.cl = cl) (h : SA f sa ea) : SE f (tCallKw n o (spD false cl m) E sa) (dCallKw n o m f.Ed ea) := fun L σ H ρ Q R r q k => by
  subst hE
  exact
  h L σ H ρ _ _ r q fun vs H1 xs g d q => ⟨by rw [d.length]; exact q.1, call_core hcl (r.mv g) r.ok.ex _ rfl (dds_perm d o) q.2 fun w H2 z g2 dz q => k w H2 z (g.trans g2) dz q⟩
theorem se_callKwF {cl : Str → Addr} {n : Nat} {o : List Nat} (hcl : f.cl = cl) (h : SA f sa ea) : SE f (tCallKw n o (spD false cl m) (fun _ _ _ => False) sa) (dCallKw n o m nothing ea) := fun L σ H ρ Q R r q k =>
  h L σ H ρ _ _ r q fun vs H1 xs g d q => ⟨by rw [d.length]; exact q.1, call_core hcl (r.mv g) (fun _ _ _ _ _ e => e.elim) _ rfl (dds_perm d o) q.2 fun w H2 z g2 dz q => k w H2 z (g.trans g2) dz q⟩
/-! ### isinstance -/
def isBool : PyData → Bool
  | .bool _ => true
  | _ => false
def isInt : PyData → Bool
  | .int _ => true
  | _ => false
def isTup : PyData → Bool
  | .tuple _ => true
  | _ => false
def isStr : PyData → Bool
  | .str _ => true
  | _ => false
def isLst : PyData → Bool
  | .list _ => true
  | _ => false
def isDct : PyData → Bool
  | .dict _ => true
  | _ => false
def tyD : PyData → String
  | .none => "NoneType"
  | .bool _ => "bool"
  | .int _ => "int"
  | .str _ => "str"
  | .list _ => "list"
  | .tuple _ => "tuple"
  | .dict _ => "dict"
theorem ty_at {K : PySem.W.Frag} {F : Addr → Prop} {H : Hp} {v : V} {e : PyData} (h : Dd F H v e) : TyX K H v (.type (tyD e)) := by
  cases h with
  | non => exact .base .non
  | bl b => exact .base (.bl b)
  | int i => exact .base (.int i)
  | str x => exact .base (.str x)
  | lst f e _ => exact .base (.lst e)
  | tup e _ => exact .base (.tup e)
  | dic f e _ => exact .base (.dK e)
structure IsiOk (T : String) (p : PyData → Bool) : Prop where
  ok : ∀ {F : Addr → Prop} {H : Hp} {v : V} {e : PyData}, Dd F H v e → kitB (tyD e) T = some (p e)
theorem isi_int : IsiOk "int" fun e => isInt e || isBool e := ⟨fun h => by
  cases h with
  | non => show kitB "NoneType" "int" = some false; decide +kernel
  | bl => show kitB "bool" "int" = some true; decide +kernel
  | int => show kitB "int" "int" = some true; decide +kernel
  | str => show kitB "str" "int" = some false; decide +kernel
  | lst => show kitB "list" "int" = some false; decide +kernel
  | tup => show kitB "tuple" "int" = some false; decide +kernel
  | dic => show kitB "dict" "int" = some false; decide +kernel⟩
theorem isi_bool : IsiOk "bool" isBool := ⟨fun h => by
  cases h with
  | non => show kitB "NoneType" "bool" = some false; decide +kernel
  | bl => show kitB "bool" "bool" = some true; decide +kernel
  | int => show kitB "int" "bool" = some false; decide +kernel
  | str => show kitB "str" "bool" = some false; decide +kernel
  | lst => show kitB "list" "bool" = some false; decide +kernel
  | tup => show kitB "tuple" "bool" = some false; decide +kernel
  | dic => show kitB "dict" "bool" = some false; decide +kernel⟩
theorem isi_tuple : IsiOk "tuple" isTup := ⟨fun h => by
  cases h with
  | non => show kitB "NoneType" "tuple" = some false; decide +kernel
  | bl => show kitB "bool" "tuple" = some false; decide +kernel
  | int => show kitB "int" "tuple" = some false; decide +kernel
  | str => show kitB "str" "tuple" = some false; decide +kernel
  | lst => show kitB "list" "tuple" = some false; decide +kernel
  | tup => show kitB "tuple" "tuple" = some true; decide +kernel
  | dic => show kitB "dict" "tuple" = some false; decide +kernel⟩
theorem isi_str : IsiOk "str" isStr := ⟨fun h => by
  cases h with
  | non => show kitB "NoneType" "str" = some false; decide +kernel
  | bl => show kitB "bool" "str" = some false; decide +kernel
  | int => show kitB "int" "str" = some false; decide +kernel
  | str => show kitB "str" "str" = some true; decide +kernel
  | lst => show kitB "list" "str" = some false; decide +kernel
  | tup => show kitB "tuple" "str" = some false; decide +kernel
  | dic => show kitB "dict" "str" = some false; decide +kernel⟩
theorem isi_list : IsiOk "list" isLst := ⟨fun h => by
  cases h with
  | non => show kitB "NoneType" "list" = some false; decide +kernel
  | bl => show kitB "bool" "list" = some false; decide +kernel
  | int => show kitB "int" "list" = some false; decide +kernel
  | str => show kitB "str" "list" = some false; decide +kernel
  | lst => show kitB "list" "list" = some true; decide +kernel
  | tup => show kitB "tuple" "list" = some false; decide +kernel
  | dic => show kitB "dict" "list" = some false; decide +kernel⟩
def dIs (p : PyData → Bool) (t : DE) : DE := fun ρ Q => t ρ fun x => Q (.bool (p x))
theorem se_isi {K : PySem.W.Frag} {T : String} {p : PyData → Bool} (hp : IsiOk T p) (h : SE f ta da) : SE f (tCB (rIsi K) (tCons ta (tCons (tC (.ty T)) tNil))) (dIs p da) := fun L σ H ρ Q R r q k =>
  h L σ H ρ _ _ r q fun v H1 x g d q => ⟨_, _, _, _, _, rfl, .ty _, ty_at d, kit_ty (hp.ok d), k _ H1 _ g (.bl _) q⟩
/-! ### built-ins -/
def rLenA (K : PySem.W.Frag) : List V → Hp → VK → Prop := fun xs H Q => (∃ p ys, xs = [.ref p] ∧ (SqL K H p ys ∨ SqT K H p ys) ∧ Q (.int ys.length) H) ∨ ∃ z, xs = [.str z] ∧ z.length ≤ sizeLine ∧ Q (.int z.length) H
theorem cr_lenA {X : Cx} : CallR X (.builtin "len") (rLenA X.K) := call_len_seq.or call_len_str
def dLen : RNd := fun xs Q => onOne xs fun x => byD x (t := fun ds => Q (.int (ds.length : Nat))) (l := fun ds => Q (.int (ds.length : Nat))) (z := fun z => z.length ≤ 100000 ∧ Q (.int (z.length : Nat)))
theorem sn_len {K : PySem.W.Frag} : SN f (rLenA K) dLen := fun L σ H ρ vs xs Q R r d q k => by
  cases d with
  | nil => exact q.elim
  | cons a b =>
    cases b with
    | nil =>
      cases a with
      | tup e c => exact .inl ⟨_, _, rfl, .inr (SqT.of e), k _ H _ r.self (.int _) (by rw [c.length]; exact q)⟩
      | lst g e c => exact .inl ⟨_, _, rfl, .inl (SqL.of e), k _ H _ r.self (.int _) (by rw [c.length]; exact q)⟩
      | str z => exact .inr ⟨z, rfl, Nat.le_trans q.1 (by decide), k _ H _ r.self (.int _) q.2⟩
      | _ => exact q.elim
    | cons a' b' => cases a <;> exact q.elim
theorem dds_bl {F : Addr → Prop} {H : Hp} : ∀ {vs : List V} {bs : List Bool}, DdAll F H vs (bs.map .bool) → vs = bs.map V.bl
  | _, [], h => by cases h; rfl
  | _, b :: bs, h => by
    cases h with
    | cons a c =>
      cases a
      rw [dds_bl c] <;> rfl
def dAll : RNd := fun xs Q => ∃ bs : List Bool, xs = [.list (bs.map .bool)] ∧ Q (.bool (bs.all id))
def dAny : RNd := fun xs Q => ∃ bs : List Bool, xs = [.list (bs.map .bool)] ∧ Q (.bool (bs.any id))
theorem sn_all {K : PySem.W.Frag} : SN f (rAll K) dAll := fun L σ H ρ vs xs Q R r d q k => by
  obtain ⟨bs, rfl, q⟩ := q
  cases d with
  | cons a b =>
    cases b
    cases a with
    | lst g e c =>
      rw [dds_bl c] at e
      exact ⟨_, bs, rfl, SqL.of e, k _ H _ r.self (.bl _) q⟩
theorem sn_any {K : PySem.W.Frag} : SN f (rAny K) dAny := fun L σ H ρ vs xs Q R r d q k => by
  obtain ⟨bs, rfl, q⟩ := q
  cases d with
  | cons a b =>
    cases b
    cases a with
    | lst g e c =>
      rw [dds_bl c] at e
      exact ⟨_, bs, rfl, SqL.of e, k _ H _ r.self (.bl _) q⟩
def dTupleOf : RNd := fun xs Q => onOne xs fun x => byD x (t := fun ds => Q (.tuple ds)) (l := fun ds => Q (.tuple ds))
def rTupleOf (K : PySem.W.Frag) : List V → Hp → VK → Prop := fun xs H Q => ∃ p ys, xs = [.ref p] ∧ ((SqL K H p ys ∧ ∀ l, H l = none → Q (.ref l) (upd H l (.tup ys))) ∨ (SqT K H p ys ∧ Q (.ref p) H))
theorem cr_tupleOf {X : Cx} : CallR X (.type "tuple") (rTupleOf X.K) := call_tuple_of
theorem sn_tupleOf {K : PySem.W.Frag} : SN f (rTupleOf K) dTupleOf := fun L σ H ρ vs xs Q R r d q k => by
  cases d with
  | nil => exact q.elim
  | cons a b =>
    cases b with
    | nil =>
      cases a with
      | tup e c => exact ⟨_, _, rfl, .inr ⟨SqT.of e, k _ H _ r.self (.tup e c) q⟩⟩
      | lst g e c => exact ⟨_, _, rfl, .inl ⟨SqL.of e, fun p np => k _ _ _ (r.new np) (.tup upd_same (r.dds (r.new np) c)) q⟩⟩
      | _ => exact q.elim
    | cons a' b' => cases a <;> exact q.elim
def dListOf : RNd := fun xs Q => onOne xs fun x => byD x (t := fun ds => Q (.list ds)) (l := fun ds => Q (.list ds))
def rListOf (K : PySem.W.Frag) : List V → Hp → VK → Prop := fun xs H Q => ∃ p ys, xs = [.ref p] ∧ (SqL K H p ys ∨ SqT K H p ys) ∧ ∀ l, H l = none → Q (.ref l) (upd H l (.lst ys))
theorem cr_listOf {X : Cx} : CallR X (.type "list") (rListOf X.K) := call_list_of
theorem sn_listOf {K : PySem.W.Frag} : SN f (rListOf K) dListOf := fun L σ H ρ vs xs Q R r d q k => by
  cases d with
  | nil => exact q.elim
  | cons a b =>
    cases b with
    | nil =>
      cases a with
      | tup e c => exact ⟨_, _, rfl, .inr (SqT.of e), fun p np => k _ _ _ (r.new np) (.lst (r.opn np) upd_same (r.dds (r.new np) c)) q⟩
      | lst g e c => exact ⟨_, _, rfl, .inl (SqL.of e), fun p np => k _ _ _ (r.new np) (.lst (r.opn np) upd_same (r.dds (r.new np) c)) q⟩
      | _ => exact q.elim
    | cons a' b' => cases a <;> exact q.elim
def dRepr : RNd := fun xs Q => onOne xs fun x => Rz 7000 50 x ∧ Q (.str x.shown)
theorem sn_repr : SN f rRepr dRepr := fun L σ H ρ vs xs Q R r d q k => by
  replace q := inv_one q
  obtain ⟨x, rfl, z, q⟩ := q
  cases d with
  | cons a b =>
    cases b
    exact ⟨_, _, x, rfl, a, z, k _ H _ r.self (.str _) q⟩
def rAbs : List V → Hp → VK → Prop := fun xs H Q => ∃ i, xs = [.int i] ∧ Q (.int (if i < 0 then -i else i)) H
theorem cr_abs {X : Cx} : CallR X (.builtin "abs") rAbs := call_abs
def dAbs : RNd := fun xs Q => onOne xs fun x => onInt x fun i => Q (.int (if i < 0 then -i else i))
theorem sn_abs : SN f rAbs dAbs := fun L σ H ρ vs xs Q R r d q k => by
  replace q := inv_one q
  obtain ⟨x, rfl, q⟩ := q
  replace q := inv_int q
  obtain ⟨i, rfl, q⟩ := q
  cases d with
  | cons a b =>
    cases b
    cases a
    exact ⟨i, rfl, k _ H _ r.self (.int _) q⟩
def rInt1 : List V → Hp → VK → Prop := fun xs H Q => (∃ i, xs = [.int i] ∧ Q (.int i) H) ∨ ∃ k, xs = [.bl k] ∧ Q (.int (if k then 1 else 0)) H
theorem cr_int1 {X : Cx} : CallR X (.type "int") rInt1 := call_int1
def dInt1 : RNd := fun xs Q => onOne xs fun x => onInt x fun i => Q (.int i)
theorem sn_int1 : SN f rInt1 dInt1 := fun L σ H ρ vs xs Q R r d q k => by
  replace q := inv_one q
  obtain ⟨x, rfl, q⟩ := q
  replace q := inv_int q
  obtain ⟨i, rfl, q⟩ := q
  cases d with
  | cons a b =>
    cases b
    cases a
    exact .inl ⟨i, rfl, k _ H _ r.self (.int _) q⟩
def rStr1 : List V → Hp → VK → Prop := fun xs H Q => (∃ i, xs = [.int i] ∧ i.natAbs.log2 < 1920 ∧ Q (.str (toString i)) H) ∨ ∃ a, xs = [.str a] ∧ Q (.str a) H
theorem cr_str1 {X : Cx} : CallR X (.type "str") rStr1 := call_str_int.or SkE.call_str_str
def dStr1 : RNd := fun xs Q => onOne xs fun x => byD x (i := fun i => i.natAbs.log2 < 1920 ∧ Q (.str (toString i))) (z := fun a => Q (.str a))
theorem sn_str1 : SN f rStr1 dStr1 := fun L σ H ρ vs xs Q R r d q k => by
  cases d with
  | nil => exact q.elim
  | cons a b =>
    cases b with
    | nil =>
      cases a with
      | int i => exact .inl ⟨i, rfl, q.1, k _ H _ r.self (.str _) q.2⟩
      | str i => exact .inr ⟨i, rfl, k _ H _ r.self (.str _) q⟩
      | _ => exact q.elim
    | cons a' b' => cases a <;> exact q.elim
def rMax2 : List V → Hp → VK → Prop := fun xs H Q => ∃ i j, xs = [.int i, .int j] ∧ Q (.int (if j > i then j else i)) H
def rMin2 : List V → Hp → VK → Prop := fun xs H Q => ∃ i j, xs = [.int i, .int j] ∧ Q (.int (if j < i then j else i)) H
theorem cr_max2 {X : Cx} (hc : X.calm = true) : CallR X (.builtin "max") rMax2 := call_max2 hc
theorem cr_min2 {X : Cx} (hc : X.calm = true) : CallR X (.builtin "min") rMin2 := call_min2 hc
def dMax2 : RNd := fun xs Q => onTwo xs fun x y => onInt x fun i => onInt y fun j => Q (.int (if j > i then j else i))
def dMin2 : RNd := fun xs Q => onTwo xs fun x y => onInt x fun i => onInt y fun j => Q (.int (if j < i then j else i))
theorem sn_max2 : SN f rMax2 dMax2 := fun L σ H ρ vs xs Q R r d q k => by
  replace q := inv_two q
  obtain ⟨x, y, rfl, q⟩ := q
  replace q := inv_int q
  obtain ⟨i, rfl, q⟩ := q
  replace q := inv_int q
  obtain ⟨j, rfl, q⟩ := q
  cases d with
  | cons a b =>
    cases b with
    | cons c e =>
      cases e
      cases a
      cases c
      exact ⟨i, j, rfl, k _ H _ r.self (.int _) q⟩
theorem sn_min2 : SN f rMin2 dMin2 := fun L σ H ρ vs xs Q R r d q k => by
  replace q := inv_two q
  obtain ⟨x, y, rfl, q⟩ := q
  replace q := inv_int q
  obtain ⟨i, rfl, q⟩ := q
  replace q := inv_int q
  obtain ⟨j, rfl, q⟩ := q
  cases d with
  | cons a b =>
    cases b with
    | cons c e =>
      cases e
      cases a
      cases c
      exact ⟨i, j, rfl, k _ H _ r.self (.int _) q⟩
/-! ### chains, in -/
def dChain (r r' : R2d) (a b c : DE) : DE := fun ρ Q => a ρ fun x => b ρ fun y => r x y fun z => onBool z fun k => iteB k (c ρ fun w => r' y w Q) (Q (.bool false))
theorem se_chain {r r' : R2} {d d' : R2d} {tc : TE} {dc : DE} (h : S2 f r d) (h' : S2 f r' d') (h1 : SE f ta da) (h2 : SE f tb db) (h3 : SE f tc dc) : SE f (tChain r r' ta tb tc) (dChain d d' da db dc) := fun L σ H ρ Q R r q k =>
  h1 L σ H ρ _ _ r q fun v H1 x g dx q => h2 L σ H1 ρ _ _ (r.mv g) q fun u H2 y g2 dy q => h L σ H2 ρ v u x y _ _ (r.mv (g.trans g2)) ((r.mv g).dd g2 dx) dy q fun w H3 z g3 dz q => by
    replace q := inv_bool q
    obtain ⟨b, rfl, q⟩ := q
    cases dz
    refine ⟨b, rfl, ?_⟩
    have g4 := (g.trans g2).trans g3
    cases b with
    | true => exact h3 L σ H3 ρ _ _ (r.mv g4) q fun w H4 z g5 dz q => h' L σ H4 ρ u w y z _ _ (r.mv (g4.trans g5)) ((r.mv (g.trans g2)).dd (g3.trans g5) dy) dz q fun w H6 z g6 dz q => k w H6 z ((g4.trans g5).trans g6) dz q
    | false => exact k _ H3 _ g4 (.bl _) q
def flatD : PyData → Bool
  | .none => true
  | .bool _ => true
  | .int _ => true
  | .str _ => true
  | _ => false
theorem flat_dd {F : Addr → Prop} {H : Hp} {v : V} {x : PyData} (d : Dd F H v x) (h : flatD x = true) : flatV v = true := by
  cases d <;> first | rfl | exact absurd h Bool.false_ne_true
theorem flats_dd {F : Addr → Prop} {H : Hp} : ∀ {vs : List V} {xs : List PyData}, DdAll F H vs xs → xs.all flatD = true → vs.all flatV = true
  | _, _, .nil, _ => rfl
  | _, _, .cons a b, h => by
    rw [List.all_cons, Bool.and_eq_true] at h ⊢
    exact ⟨flat_dd a h.1, flats_dd b h.2⟩
theorem eqV_dd {F : Addr → Prop} {H : Hp} {v u : V} {x y : PyData} (d : Dd F H v x) (e : Dd F H u y) (h : flatD x = true) (h' : flatD y = true) : eqV v u = PyData.eqv x y := by
  cases d <;> first | exact absurd h Bool.false_ne_true | skip
  all_goals cases e <;> first | exact absurd h' Bool.false_ne_true | skip
  all_goals simp [eqV, PyData.eqv]
theorem inV_dd {F : Addr → Prop} {H : Hp} {v : V} {x : PyData} (d : Dd F H v x) (h : flatD x = true) : ∀ {vs : List V} {xs : List PyData}, DdAll F H vs xs → xs.all flatD = true → inV v vs = xs.any fun z => PyData.eqv z x
  | _, _, .nil, _ => rfl
  | _, _, .cons a b, h2 => by
    rw [List.all_cons, Bool.and_eq_true] at h2
    have ih := inV_dd d h b h2.2
    unfold inV at ih ⊢
    rw [List.any_cons, List.any_cons, ih, eqV_dd a d h2.1 h]
def rInA (K : PySem.W.Frag) : R2 := fun x y H Q => rIn K false x y H Q ∨ ∃ i j, x = .str i ∧ y = .str j ∧ Q (.bl (!(Builtin.Str.occurrences j i 0 j.length 1).isEmpty)) H
theorem op_inA {X : Cx} : OpR X (compareOp .In) (rInA X.K) := op_in_seq.or op_in_str
def dInF : R2d := fun x y Q => byD y (t := fun ds => flatD x = true ∧ ds.all flatD = true ∧ Q (.bool (ds.any fun z => PyData.eqv z x))) (l := fun ds => flatD x = true ∧ ds.all flatD = true ∧ Q (.bool (ds.any fun z => PyData.eqv z x)))
  (z := fun j => onStr x fun i => Q (.bool (!(Builtin.Str.occurrences j i 0 j.length 1).isEmpty)))
theorem s2_in {K : PySem.W.Frag} : S2 f (rInA K) dInF := fun L σ H ρ v u x y Q R r dx dy q k => by
  cases dy with
  | tup e c =>
    refine .inl ⟨_, _, rfl, .inr (SqT.of e), flat_dd dx q.1, flats_dd c q.2.1, k _ H _ r.self (.bl _) ?_⟩
    rw [if_neg Bool.false_ne_true, inV_dd dx q.1 c q.2.1]
    exact q.2.2
  | lst g e c =>
    refine .inl ⟨_, _, rfl, .inl (SqL.of e), flat_dd dx q.1, flats_dd c q.2.1, k _ H _ r.self (.bl _) ?_⟩
    rw [if_neg Bool.false_ne_true, inV_dd dx q.1 c q.2.1]
    exact q.2.2
  | str j =>
    replace q := inv_str q
    obtain ⟨i, rfl, q⟩ := q
    cases dx
    exact .inr ⟨i, j, rfl, rfl, k _ H _ r.self (.bl _) q⟩
  | _ => exact q.elim
end
end Ey
/-! ### slots set, lists of one's own, loops, statements -/
namespace Ey
open PySem PySem.Spec PyProof.Rows L2
section
variable {f : Fx} {L L' : List Addr} {σ σ' : L2.St} {H H' H'' : Hp} {ρ ρ' : Env} {v : V} {x : PyData} {vs : List V} {xs : List PyData}
theorem SlR.tr {s : Sl} {o : Option V} (r : Rel f L σ H ρ) (t : Tr f L H L' H') (sub : ∀ a ∈ L, a ∈ L') (w : ∀ a ∈ L, ∀ vs, H a = some (.lst vs) → H' a = some (.lst vs)) (q : SlR f L H s o) : SlR f L' H' s o := by
  cases s with
  | any => trivial
  | d x =>
    obtain ⟨v, e, d⟩ := q
    exact ⟨v, e, t.dd r d⟩
  | own xs =>
    obtain ⟨a, vs, e, m, ea, d⟩ := q
    exact ⟨a, vs, e, sub a m, w a m vs ea, t.dds r d⟩
  | dk => exact q
/-- a new list of one's own -/
theorem Rel.push (r : Rel f L σ H ρ) (g : Go f H H') {p : Addr} (n : H p = none) {ys : List V} (e : H' p = some (.lst ys)) : Rel f (p :: L) σ H' ρ := by
  have t : Tr f L H (p :: L) H' := ⟨fun a h => by
    rcases List.mem_cons.mp h with rfl | h
    · exact .inr n
    · exact .inl h, fun a o e n _ => g.kp a o e n⟩
  refine ⟨r.ok, r.go.trans g, r.len, fun a h => ?_, fun i s es => ?_, r.inj⟩
  · rcases List.mem_cons.mp h with rfl | h
    · exact ⟨r.fresh n, ys, e⟩
    · obtain ⟨vs, e2⟩ := (r.own a h).2
      exact ⟨(r.own a h).1, vs, g.kp _ _ e2 (r.own_off h)⟩
  · obtain ⟨o, eo, q⟩ := r.sl i s es
    exact ⟨o, eo, q.tr r t (fun a h => List.mem_cons_of_mem _ h) fun a m vs e2 => g.kp _ _ e2 (r.own_off m)⟩
theorem tr_push (r : Rel f L σ H ρ) (g : Go f H H') {p : Addr} (n : H p = none) : Tr f L H (p :: L) H' := ⟨fun a h => by
    rcases List.mem_cons.mp h with rfl | h
    · exact .inr n
    · exact .inl h, fun a o e n _ => g.kp a o e n⟩
/-- the slots of a row of own lists are told apart -/
def Sep (σ : L2.St) (ρ : Env) (v : V) : Prop := ∀ (j : Nat) (ys : List PyData), ρ[j]? = some (.own ys) → σ[j]? ≠ some (some v)
theorem Rel.set (r : Rel f L σ H ρ) {i : Nat} {s : Sl} (q : SlR f L H s (some v)) (hs : ∀ ys, s = .own ys → Sep σ ρ v) : Rel f L (σ.set i (some v)) H (ρ.set i s) := by
  refine ⟨r.ok, r.go, by rw [List.length_set, List.length_set]; exact r.len, r.own, fun j t e => ?_, fun j k ys zs e1 e2 e3 => ?_⟩
  · rw [List.getElem?_set] at e
    rw [List.getElem?_set, r.len]
    by_cases h : i = j
    · rw [if_pos h] at e ⊢
      by_cases hl : i < ρ.length
      · rw [if_pos hl] at e ⊢
        cases e
        exact ⟨_, rfl, q⟩
      · rw [if_neg hl] at e
        cases e
    · rw [if_neg h] at e ⊢
      exact r.sl j t e
  · have nl : ∀ {m : Nat} {ws : List PyData}, (ρ.set i s)[m]? = some (.own ws) → (i = m ∧ i < ρ.length ∧ s = .own ws) ∨ (i ≠ m ∧ ρ[m]? = some (.own ws)) := fun {m ws} e => by
      rw [List.getElem?_set] at e
      by_cases h : i = m
      · rw [if_pos h] at e
        by_cases hl : i < ρ.length
        · rw [if_pos hl] at e
          cases e
          exact .inl ⟨h, hl, rfl⟩
        · rw [if_neg hl] at e
          cases e
      · rw [if_neg h] at e
        exact .inr ⟨h, e⟩
    have at_i : i < ρ.length → (σ.set i (some v))[i]? = some (some v) := fun hl => by rw [List.getElem?_set_self (by rw [r.len]; exact hl)]
    have at_m : ∀ m, i ≠ m → (σ.set i (some v))[m]? = σ[m]? := fun m h => by rw [List.getElem?_set_ne h]
    rcases nl e1 with ⟨h1, l1, s1⟩ | ⟨h1, s1⟩
    · rcases nl e2 with ⟨h2, l2, s2⟩ | ⟨h2, s2⟩
      · exact h1.symm.trans h2
      · subst h1
        rw [at_i l1, at_m k h2] at e3
        exact absurd e3.symm (hs _ s1 k _ s2)
    · rcases nl e2 with ⟨h2, l2, s2⟩ | ⟨h2, s2⟩
      · subst h2
        rw [at_i l2, at_m j h1] at e3
        exact absurd e3 (hs _ s2 j _ s1)
      · rw [at_m j h1, at_m k h2] at e3
        exact r.inj j k _ _ s1 s2 e3
theorem Rel.setD (r : Rel f L σ H ρ) {i : Nat} (q : Dd (Fr f L) H v x) : Rel f L (σ.set i (some v)) H (ρ.set i (.d x)) := r.set ⟨v, rfl, q⟩ fun ys e => by cases e
theorem Rel.wipe1 (r : Rel f L σ H ρ) {i : Nat} {o : Option V} : Rel f L (σ.set i o) H (ρ.set i .any) := by
  refine ⟨r.ok, r.go, by rw [List.length_set, List.length_set]; exact r.len, r.own, fun j t e => ?_, fun j k ys zs e1 e2 e3 => ?_⟩
  · rw [List.getElem?_set] at e
    rw [List.getElem?_set, r.len]
    by_cases h : i = j
    · rw [if_pos h] at e ⊢
      by_cases hl : i < ρ.length
      · rw [if_pos hl] at e ⊢
        cases e
        exact ⟨_, rfl, trivial⟩
      · rw [if_neg hl] at e
        cases e
    · rw [if_neg h] at e ⊢
      exact r.sl j t e
  · have nl : ∀ {m : Nat} {ws : List PyData}, (ρ.set i .any)[m]? = some (.own ws) → i ≠ m ∧ ρ[m]? = some (.own ws) := fun {m ws} e => by
      rw [List.getElem?_set] at e
      by_cases h : i = m
      · rw [if_pos h] at e
        by_cases hl : i < ρ.length
        · rw [if_pos hl] at e
          cases e
        · rw [if_neg hl] at e
          cases e
      · rw [if_neg h] at e
        exact ⟨h, e⟩
    obtain ⟨h1, s1⟩ := nl e1
    obtain ⟨h2, s2⟩ := nl e2
    rw [List.getElem?_set_ne h1, List.getElem?_set_ne h2] at e3
    exact r.inj j k _ _ s1 s2 e3
def wipeD (ρ : Env) : List Nat → Env
  | [] => ρ
  | v :: vs => (wipeD ρ vs).set v .any
theorem Rel.wipe (r : Rel f L σ H ρ) : ∀ ws : List Nat, Rel f L (L2.wipe σ ws) H (wipeD ρ ws)
  | [] => r
  | w :: ws => (Rel.wipe r ws).wipe1
/-! ### what is walked -/
abbrev DI := Env → (List PyData → Prop) → Prop
structure IsIt (f : Fx) (L : List Addr) (J : It) (H : Hp) (xs : List PyData) : Prop where
  stop : ∀ L' H', Tr f L H L' H' → f.deck H' → J.stop xs.length H'
  go : ∀ (i : Nat) L' H', i < xs.length → Tr f L H L' H' → f.deck H' → J.go i H'
  yld : ∀ (i : Nat) (x : PyData) L' (H' : Hp) v H'', xs[i]? = some x → Tr f L H L' H' → Rel f L' [] H' [] → J.yld i H' v H'' → Go f H' H'' ∧ Dd (Fr f L') H'' v x
def SI (f : Fx) (wi : TI) (di : DI) : Prop := ∀ (L : List Addr) (σ : L2.St) (H : Hp) (ρ : Env) (Q : List PyData → Prop) (R : It → Hp → Prop), Rel f L σ H ρ → di ρ Q → (∀ J H' xs, Go f H H' → IsIt f L J H' xs → Q xs → R J H') → wi σ H R
theorem Rel.bare (r : Rel f L σ H ρ) : Rel f L [] H [] := ⟨r.ok, r.go, rfl, r.own, fun i s e => by simp at e, fun i j _ _ e => by simp at e⟩
theorem it_list {K : PySem.W.Frag} (r : Rel f L σ H ρ) {a : Addr} (fa : Fr f L a) (e : H a = some (.lst vs)) (d : DdAll (Fr f L) H vs xs) : IsIt f L (Itl K a) H xs := by
  have at_ : ∀ {L' H'}, Tr f L H L' H' → H' a = some (.lst vs) := fun t => t.kp a _ e (r.ok.off a fa.1) fa.2
  have hl := d.length
  refine ⟨fun L' H' t _ => ⟨vs, SqL.of (at_ t), Nat.le_of_eq hl⟩, fun i L' H' hi t _ => ⟨vs, vs[i]'(by omega), SqL.of (at_ t), List.getElem?_eq_getElem _⟩, fun i x L' H' v H'' hx t r' y => ?_⟩
  obtain ⟨rfl, y⟩ := y
  obtain ⟨u, hu, du⟩ := dds_get d hx
  have := y vs (SqL.of (at_ t))
  rw [hu] at this
  cases this
  exact ⟨r'.self, t.dd r du⟩
theorem it_tup {K : PySem.W.Frag} (r : Rel f L σ H ρ) {a : Addr} (e : H a = some (.tup vs)) (d : DdAll (Fr f L) H vs xs) : IsIt f L (Itt K a) H xs := by
  have at_ : ∀ {L' H'}, Tr f L H L' H' → H' a = some (.tup vs) := fun t => t.kp a _ e (Rel.tup_off r.deck e) fun m => by
    obtain ⟨ws, e2⟩ := (r.own a m).2
    rw [e] at e2
    cases e2
  have hl := d.length
  refine ⟨fun L' H' t _ => ⟨vs, SqT.of (at_ t), Nat.le_of_eq hl⟩, fun i L' H' hi t _ => ⟨vs, vs[i]'(by omega), SqT.of (at_ t), List.getElem?_eq_getElem _⟩, fun i x L' H' v H'' hx t r' y => ?_⟩
  obtain ⟨rfl, y⟩ := y
  obtain ⟨u, hu, du⟩ := dds_get d hx
  have := y vs (SqT.of (at_ t))
  rw [hu] at this
  cases this
  exact ⟨r'.self, t.dd r du⟩
def rngD (lo : Int) (n : Nat) : List PyData := (List.range n).map fun k => .int (lo + (k : Nat))
theorem it_rng {lo : Int} {n : Nat} : IsIt f L (Itr lo n) H (rngD lo n) := by
  have hl : (rngD lo n).length = n := by unfold rngD; rw [List.length_map, List.length_range]
  refine ⟨fun L' H' t _ => Nat.le_of_eq hl.symm, fun i L' H' hi t _ => by rw [hl] at hi; exact hi, fun i x L' H' v H'' hx t r' y => ?_⟩
  obtain ⟨rfl, rfl⟩ := y
  unfold rngD at hx
  rw [List.getElem?_map] at hx
  by_cases h : i < n
  · rw [List.getElem?_range h] at hx
    cases hx
    exact ⟨r'.self, .int _⟩
  · rw [List.getElem?_eq_none (by rw [List.length_range]; omega)] at hx
    cases hx
theorem PI.or {X : Cx} {tg e : Expr} {w w' : TI} (h : PI X tg e w) (h' : PI X tg e w') : PI X tg e (fun σ H R => w σ H R ∨ w' σ H R) := ⟨fun pins s σ H R I q => by
  rcases q with q | q
  · exact h.run pins s σ H R I q
  · exact h'.run pins s σ H R I q⟩
/-- over a list or a tuple -/
def iSeq (K : PySem.W.Frag) (t : TE) : TI := fun σ H R => t σ H fun x H1 => ∃ a, x = .ref a ∧ (((∃ xs, SqL K H1 a xs) ∧ R (Itl K a) H1) ∨ ((∃ xs, SqT K H1 a xs) ∧ R (Itt K a) H1))
theorem pi_seq {X : Cx} {tg l : Expr} {tl : TE} (hl : PE X l tl) : PI X tg l (iSeq X.K tl) := by
  refine ⟨fun pins s σ H R I h => ?_⟩
  refine thn (hl.run pins s σ H _ I h) fun v s1 ⟨x, H1, I1, r1, q1⟩ => ?_
  obtain ⟨a, e, ⟨⟨xs, hq⟩, q⟩ | ⟨⟨xs, hq⟩, q⟩⟩ := q1
  · subst e
    cases r1
    obtain ⟨its, rv, p, hz⟩ := I1.list hq
    refine wpAny_pyIter_list p.isList ?_
    refine ⟨s1.heap.objs.size, [s1.heap.objs.size], _, _, H1, rfl, I1.kept (t' := s1.toks) fun b o e => Heap.get?_push_of_some _ e, turn_list a _, ⟨_, Heap.get?_push_size _ rfl, rfl, rfl⟩, fun b hb => ?_, q⟩
    have e : b = s1.heap.objs.size := by simpa using hb
    subst e
    exact I1.fpOk (Nat.le_refl _) (I1.hok.fresh (Nat.le_refl _))
  · subst e
    cases r1
    obtain ⟨its, rv, p, hz⟩ := I1.tuple hq
    refine wpAny_pyIter_tuple (show s1.heap.IsTuple a its.toArray from p) ?_
    refine ⟨s1.heap.objs.size, [s1.heap.objs.size], _, _, H1, rfl, I1.kept (t' := s1.toks) fun b o e => Heap.get?_push_of_some _ e, turn_tuple a _, ⟨_, Heap.get?_push_size _ rfl, rfl, rfl⟩, fun b hb => ?_, q⟩
    have e : b = s1.heap.objs.size := by simpa using hb
    subst e
    exact I1.fpOk (Nat.le_refl _) (I1.hok.fresh (Nat.le_refl _))
def dItems (t : DE) : DI := fun ρ Q => t ρ fun x => byD x (t := Q) (l := Q)
theorem si_seq {K : PySem.W.Frag} {te : TE} {t : DE} (h : SE f te t) : SI f (iSeq K te) (dItems t) := fun L σ H ρ Q R r q k =>
  h L σ H ρ _ _ r q fun v H1 x g d q => by
    cases d with
    | tup e c => exact ⟨_, rfl, .inr ⟨⟨_, SqT.of e⟩, k _ H1 _ g (it_tup (r.mv g) e c) q⟩⟩
    | lst fa e c => exact ⟨_, rfl, .inl ⟨⟨_, SqL.of e⟩, k _ H1 _ g (it_list (r.mv g) fa e c) q⟩⟩
    | _ => exact q.elim
def dRng1 (t : DA) : DI := fun ρ Q => t ρ fun xs => onOne xs fun x => onInt x fun j => -100000 < j ∧ j < 100000 ∧ Q (rngD 0 j.toNat)
def dRng2 (t : DA) : DI := fun ρ Q => t ρ fun xs => onTwo xs fun x y => onInt x fun i => onInt y fun j => -100000 < i ∧ i < 100000 ∧ -100000 < j ∧ j < 100000 ∧ Q (rngD i (j - i).toNat)
theorem si_rng1 {ta : TA} {t : DA} (h : SA f ta t) : SI f (iRng1 ta) (dRng1 t) := fun L σ H ρ Q R r q k =>
  h L σ H ρ _ _ r q fun v H1 x g d q => by
    replace q := inv_one q
    obtain ⟨x, rfl, q⟩ := q
    replace q := inv_int q
    obtain ⟨j, rfl, h0, h1, q⟩ := q
    cases d with
    | cons a b =>
      cases b
      cases a
      exact ⟨j, rfl, by omega, by omega, k _ H1 _ g it_rng q⟩
theorem si_rng2 {ta : TA} {t : DA} (h : SA f ta t) : SI f (iRng2 ta) (dRng2 t) := fun L σ H ρ Q R r q k =>
  h L σ H ρ _ _ r q fun v H1 x g d q => by
    replace q := inv_two q
    obtain ⟨x, y, rfl, q⟩ := q
    replace q := inv_int q
    obtain ⟨i, rfl, q⟩ := q
    replace q := inv_int q
    obtain ⟨j, rfl, h0, h1, h2, h3, q⟩ := q
    cases d with
    | cons a b =>
      cases b with
      | cons c e =>
        cases e
        cases a
        cases c
        exact ⟨i, j, rfl, ⟨by omega, by omega, by omega, by omega⟩, k _ H1 _ g it_rng q⟩
end
/-! ### targets -/
abbrev DG := PyData → Env → (Env → Prop) → Prop
abbrev DGs := List PyData → Env → (Env → Prop) → Prop
def SG (f : Fx) (is : List Nat) (g : TG) (dg : DG) : Prop := ∀ (L : List Addr) (σ : L2.St) (H : Hp) (ρ : Env) (v : V) (x : PyData) (Q : Env → Prop) (R : L2.St → Hp → Prop), Rel f L σ H ρ → Dd (Fr f L) H v x → dg x ρ Q →
  (∀ σ' ρ', Rel f L σ' H ρ' → (∀ ws : List Nat, (∀ i ∈ is, i ∈ ws) → L2.wipe σ' ws = L2.wipe σ ws) → Q ρ' → R σ' H) → g v σ H R
def SGs (f : Fx) (is : List Nat) (g : TGs) (dg : DGs) : Prop := ∀ (L : List Addr) (σ : L2.St) (H : Hp) (ρ : Env) (vs : List V) (xs : List PyData) (Q : Env → Prop) (R : L2.St → Hp → Prop), Rel f L σ H ρ → DdAll (Fr f L) H vs xs → dg xs ρ Q →
  (∀ σ' ρ', Rel f L σ' H ρ' → (∀ ws : List Nat, (∀ i ∈ is, i ∈ ws) → L2.wipe σ' ws = L2.wipe σ ws) → Q ρ' → R σ' H) → g vs σ H R
def dName (i : Nat) : DG := fun x ρ Q => Q (ρ.set i (.d x))
def dGNil : DGs := fun xs ρ Q => onNil xs (Q ρ)
def dGCons (t : DG) (u : DGs) : DGs := fun xs ρ Q => onCons xs fun x ys => t x ρ fun ρ1 => u ys ρ1 Q
def dGTup (n : Nat) (t : DGs) : DG := fun x ρ Q => onTup x fun xs => xs.length = n ∧ t xs ρ Q
theorem wipe_in {σ : L2.St} {i : Nat} {o : Option V} : ∀ {ws : List Nat}, i ∈ ws → L2.wipe (σ.set i o) ws = L2.wipe σ ws
  | [], h => by cases h
  | w :: ws, h => by
    show (L2.wipe (σ.set i o) ws).set w none = (L2.wipe σ ws).set w none
    by_cases e : i ∈ ws
    · rw [wipe_in e]
    · have hw : i = w := by
        rcases List.mem_cons.mp h with h | h
        · exact h
        · exact absurd h e
      subst hw
      have : ∀ us : List Nat, i ∉ us → L2.wipe (σ.set i o) us = (L2.wipe σ us).set i o := by
        intro us
        induction us with
        | nil => intro _; rfl
        | cons u us ih =>
          intro hn
          show (L2.wipe (σ.set i o) us).set u none = ((L2.wipe σ us).set u none).set i o
          rw [ih fun h => hn (List.mem_cons_of_mem _ h), List.set_comm _ _ fun e => hn (by rw [e]; exact List.mem_cons_self)]
      rw [this ws e, List.set_set]
section
variable {f : Fx}
theorem sg_name {i : Nat} : SG f [i] (gName i) (dName i) := fun L σ H ρ v x Q R r d q k => k _ _ (r.setD d) (fun ws h => wipe_in (h i (by simp))) q
theorem sgs_nil : SGs f [] gNil dGNil := fun L σ H ρ vs xs Q R r d q k => by
  replace q := inv_nil q
  obtain ⟨rfl, q⟩ := q
  cases d
  exact ⟨rfl, k σ ρ r (fun _ _ => rfl) q⟩
theorem sgs_cons {g : TG} {gs : TGs} {d : DG} {ds : DGs} {is js : List Nat} (h1 : SG f is g d) (h2 : SGs f js gs ds) : SGs f (is ++ js) (gCons g gs) (dGCons d ds) := fun L σ H ρ vs xs Q R r dd q k => by
  replace q := inv_cons q
  obtain ⟨x, ys, rfl, q⟩ := q
  cases dd with
  | cons a b =>
    refine ⟨_, _, rfl, h1 L σ H ρ _ _ _ _ r a q fun σ1 ρ1 r1 w1 q => h2 L σ1 H ρ1 _ _ _ _ r1 b q fun σ2 ρ2 r2 w2 q => k σ2 ρ2 r2 (fun ws h => ?_) q⟩
    rw [w2 ws fun i hi => h i (List.mem_append_right _ hi), w1 ws fun i hi => h i (List.mem_append_left _ hi)]
theorem sg_tup {K : PySem.W.Frag} {n : Nat} {gs : TGs} {ds : DGs} {is : List Nat} (h : SGs f is gs ds) : SG f is (gTup K n gs) (dGTup n ds) := fun L σ H ρ v x Q R r d q k => by
  replace q := inv_tup q
  obtain ⟨xs, rfl, hl, q⟩ := q
  cases d with
  | tup e c => exact ⟨_, _, rfl, SqT.of e, by rw [c.length]; exact hl, h L σ H ρ _ _ _ _ r c q k⟩
end
/-! ### comprehensions -/
def dComp (dg : DG) (dt : DT) (de : DE) (ρ : Env) : List PyData → List PyData → (List PyData → Prop) → Prop
  | [], acc, Q => Q acc
  | x :: xs, acc, Q => dg x ρ fun ρ1 => dt ρ1 fun b => iteB b (de ρ1 fun y => dComp dg dt de ρ xs (acc ++ [y]) Q) (dComp dg dt de ρ xs acc Q)
def dLcL (di : DI) (dg : DG) (dt : DT) (de : DE) (ws : List Nat) : Env → (List PyData → Prop) → Prop := fun ρ Q => di ρ fun xs => xs.length ≤ 100000 ∧ dComp dg dt de (wipeD ρ ws) xs [] Q
def asList (t : Env → (List PyData → Prop) → Prop) : DE := fun ρ Q => t ρ fun xs => Q (.list xs)
/-- an expression that makes a list that nothing else knows -/
def SEo (f : Fx) (te : TE) (t : Env → (List PyData → Prop) → Prop) : Prop := ∀ (L : List Addr) (σ : L2.St) (H : Hp) (ρ : Env) (Q : List PyData → Prop) (R : VK), Rel f L σ H ρ → t ρ Q →
  (∀ p vs H' xs, Go f H H' → H p = none → H' p = some (.lst vs) → DdAll (Fr f (p :: L)) H' vs xs → Q xs → R (.ref p) H') → te σ H R
theorem Go.back {f : Fx} {H H' : Hp} (g : Go f H H') {p : Addr} (n : H' p = none) : H p = none := by
  cases e : H p with
  | none => rfl
  | some o =>
    have k := g.kp p o e fun d l ed => deck_some (g.dk d l ed) n
    rw [n] at k
    cases k
section
variable {f : Fx} {L : List Addr} {σ : L2.St} {H H' : Hp} {ρ : Env}
theorem dds_new {p : Addr} {o : HO} {vs : List V} {xs : List PyData} (r : Rel f L σ H ρ) (n : H p = none) (d : DdAll (Fr f L) H vs xs) : DdAll (Fr f (p :: L)) (upd H p o) vs xs := by
  refine Tr.dds r ⟨fun a h => ?_, fun a o e _ _ => (Evl.Ex.new n) _ _ e⟩ d
  rcases List.mem_cons.mp h with rfl | h
  · exact .inr n
  · exact .inl h
theorem seo_lst {sa : TA} {ea : DA} (h : SA f sa ea) : SEo f (tLst sa) (fun ρ Q => ea ρ fun xs => xs.length ≤ 1000 ∧ Q xs) := fun L σ H ρ Q R r q k =>
  h L σ H ρ _ _ r q fun vs H1 xs g d q => by
    refine ⟨by rw [d.length]; exact Nat.le_trans q.1 (by decide), fun p np => k p vs _ xs (g.new np) (g.back np) upd_same ?_ q.2⟩
    exact dds_new (r.mv g) np d
theorem se_own {te : TE} {t : Env → (List PyData → Prop) → Prop} (h : SEo f te t) : SE f te (asList t) := fun L σ H ρ Q R r q k =>
  h L σ H ρ _ _ r q fun p vs H1 xs g n e d q => k _ H1 _ g (.lst (r.opn n) e (d.imp fun a o _ h => ⟨h.1, fun m => h.2 (List.mem_cons_of_mem _ m)⟩)) q
theorem wipe_in2 {ws : List Nat} : ∀ us : List Nat, (∀ u ∈ us, u ∈ ws) → ∀ σ : L2.St, L2.wipe (L2.wipe σ us) ws = L2.wipe σ ws
  | [], _, _ => rfl
  | u :: us, h, σ => by
    show L2.wipe ((L2.wipe σ us).set u none) ws = _
    rw [wipe_in (h u List.mem_cons_self), wipe_in2 us fun v hv => h v (List.mem_cons_of_mem _ hv)]
theorem seo_lc {wi : TI} {di : DI} {g : TG} {dg : DG} {tt : TT} {dt : DT} {te : TE} {de : DE} {is ws : List Nat} (hi : SI f wi di) (hg : SG f is g dg) (hw : ∀ i ∈ is, i ∈ ws) (ht : ST f tt dt) (he : SE f te de) : SEo f (tLc wi g tt te ws) (dLcL di dg dt de ws) := fun L σ H ρ Q R r q k =>
  hi L σ H ρ _ _ r q fun J H1 xs g1 it q => by
    intro D nD
    have r1 := r.mv g1
    have deckD : f.off D := fun d l ed => deck_some (r1.deck d l ed) nD
    let W : Nat → Nat → Hp → Prop := fun i m H2 => m = xs.length - i ∧ i ≤ xs.length ∧ ∃ vs acc, Go f H1 H2 ∧ H2 D = some (.lst vs) ∧ DdAll (Fr f (D :: L)) H2 vs acc ∧ acc.length ≤ i ∧ dComp dg dt de (wipeD ρ ws) (xs.drop i) acc Q
    refine ⟨W, ⟨xs.length, by simp, Nat.zero_le _, [], [], r1.new nD, upd_same, .nil, Nat.le_refl _, q.2⟩, ?_⟩
    rintro i m H2 ⟨rfl, hi, vs, acc, g2, eD, dA, la, q2⟩
    have t2 := tr_push r1 g2 nD
    have r2 : Rel f (D :: L) σ H2 ρ := r1.push g2 nD eD
    by_cases hlt : i < xs.length
    · refine .inr ⟨it.go i _ H2 hlt t2 g2.dk, W (i + 1) (xs.length - (i + 1)), fun H' w => ⟨_, by omega, w⟩, fun v H3 y => ?_⟩
      obtain ⟨g3, dx⟩ := it.yld i xs[i] _ H2 v H3 (List.getElem?_eq_getElem hlt) t2 r2.bare y
      rw [List.drop_eq_getElem_cons hlt] at q2
      have r3 := (r2.mv g3).wipe ws
      refine hg _ _ H3 _ v _ _ _ r3 dx q2 fun σ4 ρ4 r4 w4 q4 => ⟨?_, ?_⟩
      · rw [w4 ws hw, wipe_in2 ws (fun _ h => h)]
      refine ht _ σ4 H3 ρ4 _ _ r4 q4 fun b H5 g5 q5 => ?_
      have g35 := g2.trans (g3.trans g5)
      cases b with
      | false =>
        refine ⟨rfl, hlt, vs, acc, g35, (g3.trans g5).kp _ _ eD deckD, r2.dds (g3.trans g5) dA, by omega, q5⟩
      | true =>
        refine he _ σ4 H5 ρ4 _ _ (r4.mv g5) q5 fun y H6 yd g6 dy q6 => ?_
        have g26 := (g3.trans g5).trans g6
        have e6 := g26.kp _ _ eD deckD
        have hl := dA.length
        have hx := q.1
        refine ⟨vs, e6, Nat.lt_of_le_of_lt (show vs.length ≤ 100000 by omega) (by decide), rfl, hlt, vs ++ [y], acc ++ [yd], ?_, upd_same, ?_, by rw [List.length_append]; simp; omega, q6⟩
        · refine ⟨fun a o e n => ?_, fun d l ed => ?_⟩
          · rw [upd_ne (ne_of_none e nD)]
            exact (g2.trans g26).kp a o e n
          · obtain ⟨ns, m', k', h1, h2, h3⟩ := ((g2.trans g26).dk d l ed).ex
            obtain ⟨n1, n2⟩ := deckD d l ed
            exact ⟨ns, m', k', h1, by rw [upd_ne n1.symm]; exact h2, by rw [upd_ne n2.symm]; exact h3⟩
        · have up : ∀ a o, H6 a = some o → (Fr f (D :: L) a ∨ ∃ xs, o = .tup xs) → (upd H6 D (.lst (vs ++ [y]))) a = some o := fun a o e h => by
            have na : a ≠ D := by
              rcases h with h | ⟨ys, rfl⟩
              · exact fun z => h.2 (by rw [z]; exact List.mem_cons_self)
              · intro z
                rw [z, e6] at e
                cases e
            rw [upd_ne na]
            exact e
          exact DdAll.keep up (dds_app (r2.dds g26 dA) (.cons dy .nil))
    · have e : i = xs.length := by omega
      subst e
      rw [List.drop_length] at q2
      exact .inl ⟨it.stop _ H2 t2 g2.dk, k D vs H2 acc (g1.trans g2) (g1.back nD) eD dA q2⟩
end
end Ey
/-! errors of the program: super().__init__(text), then one field -/
namespace Ey
open PySem PySem.W PySem.Calls PyProof.Rows PySem.HandSPX Builtin Builtin.ObjectAttr
def erA (fld : Str) (p1 p2 : Pos) : Arguments :=
  { posonlyargs := [], args := [{ arg := "self", annotation := none, pos := p1 }, { arg := fld, annotation := none, pos := p2 }], vararg := none, kwonlyargs := [], kw_defaults := [], kwarg := none, defaults := [] }
def erB (msg fld : Str) (j : Nat) (q0 q1 q2 q3 q4 q5 q6 q7 q8 q9 : Pos) : List Stmt :=
  [.Expr (.Call (.Attribute (.Call (.Name "super" q0) [] [] q1) "__init__" q2) [.Constant (.str msg) j q3] [] q4) q5, .Assign [.Attribute (.Name "self" q6) fld q7] (.Name fld q8) q9]
def erS (fld : Str) : Scope :=
  { kind := .function, names := [(PySem.Str.ofString "self", .local), (fld, .local), (PySem.Str.ofString "__class__", .free), (PySem.Str.ofString "super", .globalImplicit)], isGenerator := false, isCoroutine := false, more := [] }
/-- what the written part says of the error's class at C, over the one at B -/
structure ErrTxt (P : Program) (K : Frag) (mg : Str → Option Value) (x fld : Str) (C B fI : Addr) : Prop where
  gC : mg x = some (.ref C)
  cls : ∃ nm q N bs sn sub ab col dd k0 k1 k2 k3 k5, K.lookup C = some (excClassObj nm q C N bs (.ref B :: ESX.exTail) true sn sub ab col dd k0 k1 k2 k3 k5 "Exception.__new__")
  su : alongIn K "__init__" (.ref B :: ESX.exTail) = some (some (.builtin "Exception.__init__"))
  sa : findIn K (.ref C) "__setattr__" = some (some (.builtin "object.__setattr__"))
  ga : findIn K (.ref C) "__getattribute__" = some (some (.builtin "BaseException.__getattribute__"))
  gg : findIn K (.ref C) "__getattr__" = some none
  noN : findIn K (.ref C) fld = some none
  iC : findIn K (.ref C) "__init__" = some (some (.ref fI))
  tC : typeIn K (.ref fI) = some (.type "function")
  kC : keepIn K (.ref C) = true
  exC : subIn K (.ref C) (.type "BaseException") = some true
  exE : subIn K (.ref C) (.type "Exception") = some true
  tyC : typeIn K (.ref C) = some (.type "type")
  hdC : hasDictIn K C = true
  fs : (("self" : Str) == fld) = false
  fsu : (("super" : Str) == fld) = false
  fcl : (("__class__" : Str) == fld) = false
  fdb : (fld == ("__debug__" : Str)) = false
  nsup : mg "super" = none
  top : (P.main.scope.names.lookup ("super" : Str)).isSome = false
  opq : nsIn K cStatics "thirdparty.any" = some none
  fn : ∃ (qual msg : Str) (j : Nat) (oc : Value) (od : Option Addr) (doc pm : Value) (an : Option Addr) (ct : Value) (osl : Array (Option Value)) (cda cc : Addr) (p1 p2 q0 q1 q2 q3 q4 q5 q6 q7 q8 q9 : Pos),
    K.lookup fI = some ⟨oc, od, .func (ksFn "__init__" qual (erA fld p1 p2) (erB msg fld j q0 q1 q2 q3 q4 q5 q6 q7 q8 q9) (erS fld) .none .none doc pm an (.ref cda) ct cc), osl⟩ ∧ codeIn K (.ref cda) qual = true ∧
    (∀ (s : Shared) (a b : Value), BindsTo s (ksFn "__init__" qual (erA fld p1 p2) (erB msg fld j q0 q1 q2 q3 q4 q5 q6 q7 q8 q9) (erS fld) .none .none doc pm an (.ref cda) ct cc) ⟨[a, b], []⟩ [("self", a), (fld, b)]) ∧
    (∃ cl cld csl, K.lookup cc = some ⟨cl, cld, .cell (some (.ref C)), csl⟩) ∧
    (∃ ccl cdd vs ccs file tf, K.lookup cda = some ⟨ccl, cdd, .fields vs, ccs⟩ ∧ vs[2]? = some (.str file tf) ∧ ((P.main.file : Str) == file) = true) ∧
    (∀ L : Addr, ∃ pl : Sem Bool, eval (.Call (.Attribute (.Call (.Name "super" q0) [] [] q1) "__init__" q2) [.Constant (.str msg) j q3] [] q4) (ksEnv qual (erS fld) L fI (.ref cda) cc) = (do
      let o ← attributeBase (.Call (.Name "super" q0) [] [] q1) "__init__" (ksEnv qual (erS fld) L fI (.ref cda) cc) (eval (.Call (.Name "super" q0) [] [] q1) (ksEnv qual (erS fld) L fI (.ref cda) cc))
      standAt q2.atName
      let (u, us) ← holding [o] (getMethod o "__init__" pl)
      callWith q4 u us (backTo q4 (starEach [.Constant (.str msg) j q3] (ksEnv qual (erS fld) L fI (.ref cda) cc))) []))
/-- what a made error leaves at x -/
structure ErrIni (h h' : Heap) (x C dx t1 : Addr) (fld : Str) (v : Value) : Prop where
  keep : ∀ b o, b ≠ x → h.get? b = some o → h'.get? b = some o
  obj : h'.get? x = some (excObj C t1 (some dx) .none)
  dbig : h.objs.size ≤ dx
  dne : dx ≠ x
  ns : h'.Ns1 dx (fun y => if y = fld then some v else none)
section
variable {prog : Program} {w : World} {A : Around} {E : Value → Shared → Prop} {R : Result → Shared → Prop} {s : Shared} {K : Frag} {mg : Str → Option Value} {xn fld : Str} {C B fI : Addr}
theorem er_set (T : ErrTxt prog K mg xn fld C B fI) {hp : Heap} {g : Array GenState} {d : Drawn} {t : Nat} {os : OsState} {x t1 : Addr} {v : Value} {Q : Unit → Shared → Prop} (X : K.In hp) (hx : hp.get? x = some (excObj C t1 none .none))
    (hq : ∀ h' tk dx, ErrIni hp h' x C dx t1 fld v → Q () ⟨h', g, d, tk, os⟩) : wpAny (model prog w) A (setAttr (.ref x) fld v) Q E ⟨hp, g, d, t, os⟩ := by
  obtain ⟨nm, q, N, bs, sn, sub, ab, col, dd, k0, k1, k2, k3, k5, hC⟩ := T.cls
  have hcl : clsIn K C = some { name := nm, bases := bs, mro := .ref C :: .ref B :: ESX.exTail, ns := N, qualname := q, hasDict := true, slotNames := sn, subclasses := sub, abstract := ab, collection := col, hasDel := false } := by unfold clsIn; rw [hC] <;> rfl
  have ov : excOver K C [.type "Exception", .type "BaseException", .type "object"] = true := by
    unfold excOver
    rw [hcl]
    simp [Option.any, excTail]
  have tk : takerIn K C fld = some none := by
    unfold takerIn
    rw [T.noN] <;> rfl
  have hxs : x ≠ hp.objs.size := Nat.ne_of_lt (Heap.lt_size hx)
  have I : ∀ t', InstAt (⟨hp, g, d, t', os⟩ : Shared).heap x (excObj C t1 none .none) C none := fun _ => ⟨hx, rfl, rfl, trivial⟩
  refine set_plain (od := none) X (I t) T.sa (osa_openX (s := ⟨hp, g, d, t + 1, os⟩) (od := none) PySem.F.store_Exception X (I (t + 1)) ov tk fun b => ?_)
  refine wpAny_bind (wpAny_pure (wpAny_bind (instanceDict_exc hx (looks_clsIn X hcl) rfl ?_)))
  show wpAny _ _ (storeInDict _ (.str fld t) fld v) _ _ _
  refine store_in_new ?_ fun h' tk' hn hs => ?_
  · exact ⟨_, #[], _, (Heap.get?_update_ne _ _ _ _ hxs.symm).trans (Heap.get?_push_at rfl rfl), rfl, fun e he => absurd he (by simp), fun _ => rfl⟩
  · have hx2 : (hp.push (dictOf [] 0)).get? x = some (excObj C t1 none .none) := Heap.get?_push_of_some _ hx
    refine hq h' tk' hp.objs.size ⟨fun b o hb ho => ?_, ?_, Nat.le_refl _, hxs.symm, hn⟩
    · exact (hs.2 b (Nat.ne_of_lt (Heap.lt_size ho))).trans ((Heap.get?_update_ne _ _ _ _ hb).trans (Heap.get?_push_of_some _ ho))
    · exact (hs.2 x hxs).trans (Heap.get?_update_self _ hx2 rfl)
theorem er_init (T : ErrTxt prog K mg xn fld C B fI) {x t0 : Addr} {v : Value} {mb : Str → Option Value} (X : K.In s.heap) (hlim : s.heap.NoLimit) (hg : s.heap.Ns mainGlobals mg) (hb : s.heap.Ns builtinsNs mb) (hbb : mb "super" = some (.type "super"))
    (hx : s.heap.get? x = some (excO C t0)) (hnx : K.lookup x = none) (hroom : A.depth < recursionLimit)
    (hq : ∀ h' tk dx t1, ErrIni s.heap h' x C dx t1 fld v → R (.ok (.ret .none)) { s with heap := h', toks := tk }) : codeAny (model prog w) A (.call (.ref fI) ⟨[.ref x, v], []⟩) R s := by
  obtain ⟨qual, msg, j, oc, od, doc, pm, an, ct, osl, cda, cc, p1, p2, q0, q1, q2, q3, q4, q5, q6, q7, q8, q9, ho, hcd, hbi, ⟨cl, cld, csl, hcell⟩, ⟨ccl, cdd, vs, ccs, file, tf, hcode, hvs, hfile⟩, hev⟩ := T.fn
  obtain ⟨nm, q, N, bs, sn, sub, ab, col, dd, k0, k1, k2, k3, k5, hC⟩ := T.cls
  have hcl : clsIn K C = some { name := nm, bases := bs, mro := .ref C :: .ref B :: ESX.exTail, ns := N, qualname := q, hasDict := true, slotNames := sn, subclasses := sub, abstract := ab, collection := col, hasDel := false } := by unfold clsIn; rw [hC] <;> rfl
  have hm1 : mroIn K C (.ref C) = some true := by
    unfold mroIn
    rw [hcl]
    simp
  have lf : (erS fld).names.lookup fld = some .local := by
    have e : (erS fld).names.lookup fld = match fld == ("self" : Str) with | true => some .local | false => some .local := by
      show List.lookup fld [(PySem.Str.ofString "self", NameKind.local), (fld, .local), (PySem.Str.ofString "__class__", .free), (PySem.Str.ofString "super", .globalImplicit)] = _
      simp [List.lookup] <;> rfl
    rw [e]
    split <;> rfl
  refine ks_codeAny_call_defAt (fd := ksFn "__init__" qual (erA fld p1 p2) (erB msg fld j q0 q1 q2 q3 q4 q5 q6 q7 q8 q9) (erS fld) .none .none doc pm an (.ref cda) ct cc) (body := erB msg fld j q0 q1 q2 q3 q4 q5 q6 q7 q8 q9) (binds := [("self", .ref x), (fld, v)])
    hroom (X _ _ ho) rfl hlim (codeRec_of X hcd) rfl (hbi _ _ _) (fun y hy => ?_) (fun y hy => ?_) (fun h1 hn1 hk1 => ?_)
  · rcases List.mem_cons.mp hy with rfl | hy
    · exact fun z => by cases z
    · rcases List.mem_cons.mp hy with rfl | hy
      · exact fun z => by cases z
      · rcases List.mem_cons.mp hy with rfl | hy
        · exact fun z => by cases z
        · rcases List.mem_cons.mp hy with rfl | hy
          · exact fun z => by cases z
          · cases hy
  · rcases List.mem_cons.mp hy with rfl | hy
    · rfl
    · rcases List.mem_cons.mp hy with rfl | hy
      · exact lf
      · cases hy
  · have X1 : K.In h1 := X.keeps hk1
    have hx1 := hk1 _ _ hx
    have hC1 : h1.get? C = some (excClassObj nm q C N bs (.ref B :: ESX.exTail) true sn sub ab col dd k0 k1 k2 k3 k5 "Exception.__new__") := X1 _ _ hC
    have bself : (fun y => List.lookup y (List.reverse [(("self" : Str), Value.ref x), (fld, v)])) "self" = some (Value.ref x) := by
      have e := T.fs
      simp [List.lookup, e]
    have bfld : (fun y => List.lookup y (List.reverse [(("self" : Str), Value.ref x), (fld, v)])) fld = some v := by
      simp [List.lookup]
    generalize hmN : (fun y => List.lookup y (List.reverse [(("self" : Str), Value.ref x), (fld, v)])) = mN at hn1 bself bfld
    have hgl : h1.Ns mainGlobals mg := hg.keeps hk1
    have hbl : h1.Ns builtinsNs mb := hb.keeps hk1
    show _root_.PySem.wpAt (model prog w) (A.deeper (ksEnv qual (erS fld) s.heap.objs.size fI (.ref cda) cc)) (.func (erB msg fld j q0 q1 q2 q3 q4 q5 q6 q7 q8 q9) (ksEnv qual (erS fld) s.heap.objs.size fI (.ref cda) cc)) (execs (erB msg fld j q0 q1 q2 q3 q4 q5 q6 q7 q8 q9) (ksEnv qual (erS fld) s.heap.objs.size fI (.ref cda) cc)) _ _ _
    obtain ⟨pl, hev⟩ := hev s.heap.objs.size
    have kS : (ksEnv qual (erS fld) s.heap.objs.size fI (.ref cda) cc).kindOf "super" = some .globalImplicit := by
      have e := T.fsu
      show List.lookup ("super" : Str) [(PySem.Str.ofString "self", NameKind.local), (fld, .local), (PySem.Str.ofString "__class__", .free), (PySem.Str.ofString "super", .globalImplicit)] = _
      rw [List.lookup_cons, List.lookup_cons, e]
      rfl
    have kC : (ksEnv qual (erS fld) s.heap.objs.size fI (.ref cda) cc).kindOf "__class__" = some .free := by
      have e := T.fcl
      show List.lookup ("__class__" : Str) [(PySem.Str.ofString "self", NameKind.local), (fld, .local), (PySem.Str.ofString "__class__", .free), (PySem.Str.ofString "super", .globalImplicit)] = _
      rw [List.lookup_cons, List.lookup_cons, e]
      rfl
    obtain ⟨hp, g, dr, tk, os⟩ := s
    refine ks_wpAt_execs_cons (ks_wpAt_Expr_any (ks_wpAt_MethodCall (pl := pl) ?_ hev))
    refine ks_wpAt_super_base (env := ksEnv qual (erS fld) hp.objs.size fI (.ref cda) cc) kS kC rfl rfl (X1 _ _ ho) rfl rfl rfl (X1 _ _ hcode) rfl hvs hfile T.top ?_
    refine ks_loadName_global rfl kS (loadGlobal_builtin (env := ksEnv qual (erS fld) hp.objs.size fI (.ref cda) cc) hgl T.nsup hbl hbb ⟨rfl, ?_⟩)
    refine wpAny_loadName_free rfl kC rfl ⟨_, X1 _ _ hcell, rfl⟩ ?_
    refine wpAny_loadName_local rfl (rfl : (ksEnv qual (erS fld) hp.objs.size fI (.ref cda) cc).kindOf "self" = some .local) hn1 bself ?_
    refine ks_wpAny_isType_cls hC1 rfl ⟨rfl, ?_⟩
    refine ks_wpAny_call_super hC1 rfl hx1 rfl (fun c e => by cases e) (looks_mroIn X1 hm1) (fun h2 e2 kk2 => ?_)
    have X2 : K.In h2 := X1.keeps kk2
    have hx2 := kk2 _ _ hx1
    have I2 : InstAt h2 x (excO C t0) C none := ⟨hx2, rfl, rfl, trivial⟩
    have hxC : x ≠ C := fun z => by
      rw [z] at hx1
      rw [hx1] at hC1
      cases hC1
    refine ESX.getMethod_super (l₀ := .ref C :: .ref B :: ESX.exTail) e2 (looks_opaque X2 T.opq) ?_ (ESX.drop_own C _) X2 T.su hxC rfl (I2.type.andThen (looks_subIn X2 T.exE)) ?_
    · exact (looks_clsIn X2 hcl).andThen .now
    refine ESX.callWith_bound (x := x) (spliced_more (wpAny_Constant_str (spliced_none ⟨Heap.get?_push_at rfl rfl, ?_⟩)))
    have k3 : ∀ b o, h2.get? b = some o → (h2.push (ESX.bw x)).get? b = some o := fun b o e => Heap.get?_push_of_some _ e
    refine ESX.call_bw (t0 := t0) (k3 _ _ (kk2 _ _ hC1)) (k3 _ _ hx2) (Heap.get?_push_at rfl rfl) (by show 1 ≤ sizeLine; rw [sizeLine_eq]; decide) fun h4 t1 k4 hx4 => ?_
    -- self.fld = fld
    have X3 : K.In (h2.push (ESX.bw x)) := X2.keeps k3
    have ne : ∀ {b : Addr} {o : Obj}, hp.get? b = some o → b ≠ x → h4.get? b = some o := fun {b o} e n => k4 b o n (k3 _ _ (kk2 _ _ (hk1 _ _ e)))
    have nL : hp.objs.size ≠ x := Nat.ne_of_gt (Heap.lt_size hx)
    have X4 : K.In h4 := fun b o e => ne (X b o e) fun z => by
      rw [z, hnx] at e
      cases e
    have hn4 : h4.Ns hp.objs.size mN := by
      obtain ⟨oL, es, ep, eL, rL⟩ := hn1
      exact ⟨oL, es, ep, k4 _ _ nL (k3 _ _ (kk2 _ _ eL)), rL⟩
    refine ks_wpAt_execs_cons (ks_wpAt_Assign_Attr ?_)
    refine wpAt_of_wpAny (ESX.ldL hn4 bfld ?_ rfl lf T.fdb)
    refine ESX.ldL hn4 bself ?_ rfl rfl
    refine er_set (xn := xn) (B := B) (fI := fI) T X4 hx4 fun h5 tk5 dx I5 => ?_
    refine wpAt_of_wpAny (wpAny_execs_nil ?_)
    have big : hp.objs.size ≤ dx := by
      obtain ⟨oL, es, ep, eL, rL⟩ := hn4
      exact Nat.le_trans (Nat.le_of_lt (Heap.lt_size eL)) I5.dbig
    exact hq h5 tk5 dx t1 ⟨fun b o n e => I5.keep b o n (ne e n), I5.obj, big, I5.dne, I5.ns⟩
/-- a made error -/
structure ErrMade (h h' : Heap) (e C d : Addr) (fld : Str) (v : Value) : Prop where
  keep : ∀ b o, h.get? b = some o → h'.get? b = some o
  new : h.objs.size ≤ e
  obj : ∃ oe vs, h'.get? e = some oe ∧ oe.cls = .ref C ∧ oe.dict = some d ∧ oe.data = .fields vs ∧ vs[1]? = some .none
  dbig : h.objs.size ≤ d
  dne : d ≠ e
  ns : h'.Ns1 d (fun y => if y = fld then some v else none)
theorem er_made (T : ErrTxt prog K mg xn fld C B fI) {v : Value} {mb : Str → Option Value} (X : K.In s.heap) (hlim : s.heap.NoLimit) (hg : s.heap.Ns mainGlobals mg) (hb : s.heap.Ns builtinsNs mb) (hbb : mb "super" = some (.type "super")) (hroom : A.depth + 1 < recursionLimit)
    (hq : ∀ h' tk e d, ErrMade s.heap h' e C d fld v → R (.ok (.ret (.ref e))) { s with heap := h', toks := tk }) :
    codeAny (model prog w) A (.call (.ref C) ⟨[v], []⟩) R s := by
  obtain ⟨nm, q, N, bs, sn, sub, ab, col, dd, k0, k1, k2, k3, k5, hC⟩ := T.cls
  obtain ⟨hp, g, dr, tk, os⟩ := s
  have k : ∀ b o, hp.get? b = some o → ((hp.push (kdv_tup [v])).push (excO C hp.objs.size)).get? b = some o := fun b o e => Heap.get?_push_of_some _ (Heap.get?_push_of_some _ e)
  have hget : ((hp.push (kdv_tup [v])).push (excO C hp.objs.size)).get? (hp.objs.size + 1) = some (excO C hp.objs.size) := by heap_get
  have hnx : K.lookup (hp.objs.size + 1) = none := by
    cases e : K.lookup (hp.objs.size + 1) with
    | none => rfl
    | some o =>
      have z : hp.get? (hp.objs.size + 1) = some o := X _ _ e
      exact absurd (Nat.lt_of_succ_lt (Heap.lt_size z)) (Nat.lt_irrefl _)
  refine call_own PySem.F.excBase_Exception (fun Y => by rw [List.contains_cons]; rfl) (X _ _ hC) (looks_findIn X T.iC) (fun self => bind_fn X self T.tC) (by show 1 ≤ sizeLine; rw [sizeLine_eq]; decide) ?_
  refine er_init (s := ⟨(hp.push (kdv_tup [v])).push (excO C hp.objs.size), g, dr, tk, os⟩) T (X.keeps k) (hlim.keeps k) (hg.keeps k) (hb.keeps k) hbb hget hnx ?_ fun h' tk' dx t1 I => ?_
  · show A.depth + 1 < recursionLimit
    exact hroom
  · have old : ∀ b o, hp.get? b = some o → h'.get? b = some o := fun b o e => I.keep b o (Nat.ne_of_lt (Nat.lt_succ_of_lt (Heap.lt_size e))) (k b o e)
    have z : hp.objs.size + 1 + 1 ≤ dx := by
      have q := I.dbig
      first
        | exact q
        | (rw [Heap.size_push, Heap.size_push] at q; exact q)
    exact ⟨rfl, hq h' tk' (hp.objs.size + 1) dx ⟨old, Nat.le_succ _, ⟨_, _, I.obj, rfl, rfl, rfl, rfl⟩, Nat.le_trans (Nat.le_trans (Nat.le_succ _) (Nat.le_succ _)) z, I.dne, I.ns⟩⟩
end
end Ey
namespace Ey
open PySem PySem.Spec PyProof.Rows L2
theorem relO_fld {fld : Str} {v : V} {v' : Value} (r : RelV v v') (f : Str) : RelO (List.lookup f [(fld, v)]) (if f = fld then some v' else none) := by
  by_cases hw : f = fld
  · subst hw
    rw [if_pos rfl]
    have q : List.lookup f [(f, v)] = some v := by simp [List.lookup]
    rw [q]
    exact r
  · rw [if_neg hw]
    have qw : (f == fld) = false := by simpa using hw
    have q2 : List.lookup f [(fld, v)] = none := by simp [List.lookup, qw]
    rw [q2]
    trivial
section
variable {X : Cx} {xn fld : Str} {C B fI : Addr}
/-- Error(e) -/
def tMkEr (C : Addr) (fld : Str) (ta : TA) : L2.St → Hp → XK → Prop := fun σ H Q => ta σ H fun vs H1 => ∃ v, vs = [v] ∧ ∀ d, H1 d = none → Q (.ref C) (some d) (upd H1 d (.xd [(fld, v)]))
theorem pmk_er {a : Expr} {ta : TA} {p pos : Pos} {k : Nat} (T : ErrTxt X.prog X.K X.mg xn fld C B fI) (hr : Room k X.A) (ha : PA X [a] ta) (hg : Gl X xn) (hdb : (xn == ("__debug__" : Str)) = false := by decide)
    (he : starEach (a :: []) X.env = (false, eval a X.env) :: starEach [] X.env := by rfl) (hpl : (backTo pos (starEach [] X.env)).any (·.1) = false := by rfl) :
    PMk X (.Call (.Name xn p) [a] [] pos) (tMkEr C fld ta) := by
  intro pins s σ H Q I h
  refine wpAny_Call_Name_kw (ld_glob I hg T.gC ?_ hdb)
  refine PySem.W.callWith_K (h₀ := X.base) I.ok.mod.kin T.kC (thn (ha.run pos pins s σ H _ I h) fun us s1 hh => ?_) he hpl
  obtain ⟨vs, H1, I1, r1, v, ev, q1⟩ := hh
  subst ev
  refine ⟨I1.kIn, ?_⟩
  cases r1 with
  | cons rv rn =>
    rename_i v' us'
    cases rn
    show wpAny _ _ (call (.ref C) [v']) _ _ _
    have hlim := I1.nolimit
    obtain ⟨mb, b1, b2⟩ := I1.mod.blt
    have gG := I1.mod.glob.keeps I1.bk
    have gB := b1.keeps I1.bk
    have gS : mb "super" = some (.type "super") := (b2 "super" (by decide)).trans (by first | rfl | kernel_rfl)
    obtain ⟨hp, g, dr, tk, os⟩ := s1
    refine wpAny_call (er_made T I1.kIn hlim gG gB gS (by have := hr.dp; omega) fun h' tk' e d M => ?_)
    show MkP X pins σ Q (.ref e) ⟨h', g, dr, tk', os⟩
    obtain ⟨oe, fv, hoe, hc, hd, hdat, h1⟩ := M.obj
    have hns := M.ns
    obtain ⟨G', g1, g2⟩ := restrict h' fun b => decide (b ≠ e)
    have gk : ∀ b, b ≠ e → G'.get? b = h'.get? b := fun b hb => g1 b (decide_eq_true hb)
    have ge : G'.get? e = none := g2 e (by simp)
    have old : ∀ b o, hp.get? b = some o → G'.get? b = some o := fun b o q => (gk b (Nat.ne_of_lt (Nat.lt_of_lt_of_le (Heap.lt_size q) M.new))).trans (M.keep b o q)
    have ob : ObjOk X.prog X.w (upd H1 d (.xd [(fld, v)])) G' d (.xd [(fld, v)]) :=
      ⟨_, hns.at (fun o q => (gk d M.dne).trans q), fun f => relO_fld rv f⟩
    have J : Inv X pins σ (upd H1 d (.xd [(fld, v)])) ⟨G', g, dr, tk', os⟩ := I1.laid (t' := tk') old M.dbig ob
    refine ⟨e, oe, fv, ⟨G', g, dr, tk', os⟩, _, .ref C, some d, rfl, J, fun b o q => ?_, ge, hoe, ⟨hc, hd⟩, hdat, h1, ?_, rfl, I1.bare, raises_own T.exC T.tyC, q1 d (I1.hok.fresh M.dbig)⟩
    · by_cases hb : b = e
      · have q' : G'.get? b = some o := q
        rw [hb, ge] at q'; cases q'
      · exact (gk b hb).symm.trans q
    · rw [upd_ne (Ne.symm M.dne)]
      exact I1.hok.fresh M.new
/-- raise Error(e) -/
def tRaiseEr (C : Addr) (fld : Str) (W : WX) (ta : TA) : TS := fun _ σ H => tMkEr C fld ta σ H fun cls d H' => W cls d σ H'
theorem ps_raiseEr {a : Expr} {ta : TA} {W : WX} {p pos pos2 : Pos} {k : Nat} (hc : X.calm = true) (T : ErrTxt X.prog X.K X.mg xn fld C B fI) (hr : Room k X.A) (tk : Takes X W) (ha : PA X [a] ta) (hg : Gl X xn) (hdb : (xn == ("__debug__" : Str)) = false := by decide)
    (he : starEach (a :: []) X.env = (false, eval a X.env) :: starEach [] X.env := by rfl) (hpl : (backTo pos (starEach [] X.env)).any (·.1) = false := by rfl) :
    PS X (.Raise (some (.Call (.Name xn p) [a] [] pos)) none pos2) (tRaiseEr C fld W ta) := ps_raise hc tk (pmk_er T hr ha hg hdb he hpl)
/-- e.fld, e the error that the suite holds (at a; its class cls, its dict d) -/
def tByEr (C : Addr) (fld : Str) (a : Addr) (cls : Value) (d : Option Addr) (te : TE) : TE := fun σ H Q => te σ H fun x H1 => x = .ref a ∧ cls = .ref C ∧ ∃ (dd : Addr) (v : V), d = some dd ∧ H1 dd = some (.xd [(fld, v)]) ∧ Q v H1
/-- the error stands there, with its dict -/
theorem er_inst {a dd : Addr} {v : V} {oe : Obj} {pn pins : List (Addr × Obj)} {σ : L2.St} {H : Hp} {s : Shared} (I : L2.Inv (X.suite a ((a, oe) :: pn)) pins σ H s) (hz : Zc (.ref C) (some dd) oe) (hf : ∃ vs, oe.data = .fields vs) (ea : H dd = some (.xd [(fld, v)])) :
    ∃ (od : Obj) (u : Value), PySem.W.InstAt s.heap a oe C (some od) ∧ PySem.W.lookIn fld od = some (some u) ∧ RelV v u := by
  obtain ⟨ha, _⟩ := I.pin (a, oe) (List.mem_append_left _ List.mem_cons_self)
  obtain ⟨vs, hd⟩ := hf
  have hx : ObjOk X.prog X.w H s.heap dd (.xd [(fld, v)]) := I.hok dd _ ea
  obtain ⟨mA, hns, hr⟩ := hx
  obtain ⟨od, ho, hl⟩ := lookIn_ns hns
  have l : List.lookup fld [(fld, v)] = some v := by simp [List.lookup]
  obtain ⟨u, hu, ru⟩ := RelO.some_of (v := v) (o := mA fld) (by rw [← l]; exact hr fld)
  exact ⟨od, u, ⟨ha, hz.1, by unfold PySem.W.notCls; rw [hd] <;> rfl, by rw [hz.2]; exact ho⟩, by rw [hl, hu], ru⟩
theorem pe_byEr {a : Addr} {oe : Obj} {cls : Value} {d : Option Addr} {pn : List (Addr × Obj)} {e : Expr} {te : TE} {pos : Pos} (T : ErrTxt X.prog X.K X.mg xn fld C B fI) (hz : Zc cls d oe) (hf : ∃ vs, oe.data = .fields vs) (he : PE (X.suite a ((a, oe) :: pn)) e te)
    (hb : attributeBase e fld X.env (eval e X.env) = eval e X.env := by rfl) :
    PE (X.suite a ((a, oe) :: pn)) (.Attribute e fld pos) (tByEr C fld a cls d te) := by
  refine ⟨fun pins s σ H Q I h => ?_⟩
  refine attr_of hb (thn (he.run pins s σ H _ I h) fun u s1 hh => ?_)
  obtain ⟨x, H1, I1, rx, ex, ec, dd, v, ed, ea, q⟩ := hh
  subst ex
  obtain rfl : u = Value.ref a := rx
  subst ec
  subst ed
  obtain ⟨od, u, J, hl, ru⟩ := er_inst I1 hz hf ea
  exact HandSPX.exc_get I1.kIn J T.ga T.gg T.exC (PySem.W.findObj_own T.hdC T.noN rfl hl) (handed_of ru) ⟨v, H1, I1.tok _, ru, q⟩
/-- isinstance(e, D), e the error that the suite holds -/
def rIsEr (K : PySem.W.Frag) (C a : Addr) (fld : Str) (cls : Value) (d : Option Addr) : List V → Hp → VK → Prop := fun xs H Q => ∃ (c : V) (cv : Value) (b : Bool) (dd : Addr) (v : V), xs = [.ref a, c] ∧ cls = .ref C ∧ d = some dd ∧ H dd = some (.xd [(fld, v)]) ∧ (∀ u, RelV c u → u = cv) ∧ PySem.W.kitOne K (.ref C) cv = some b ∧ Q (.bl b) H
theorem call_isEr {a : Addr} {oe : Obj} {cls : Value} {d : Option Addr} {pn : List (Addr × Obj)} (D : ExcC X.K C) (hz : Zc cls d oe) (hf : ∃ vs, oe.data = .fields vs) : CallR (X.suite a ((a, oe) :: pn)) (.builtin "isinstance") (rIsEr X.K C a fld cls d) := by
  intro pins s σ H xs us Q I r h
  obtain ⟨c, cv, b, dd, v, rfl, rfl, rfl, ea, hcv, e, q⟩ := h
  cases r with
  | cons rx rr =>
    cases rr with
    | cons rt rr =>
      cases rr
      cases rx
      have ec := hcv _ rt
      subst ec
      obtain ⟨od, u, J, _, _⟩ := er_inst I hz hf ea
      obtain ⟨cd, hcd, _⟩ := PySem.W.any_some D.hd
      exact PySem.W.kia_one (PySem.W.kitx_exc (by rw [hcd] <;> rfl) D.hg D.hk D.hs D.ha D.hn D.ht D.hm) I.kIn J e (fun z => nomatch z) fun tk => ⟨.bl b, H, I.kept (t' := tk) fun _ _ z => z, rfl, q⟩
end
end Ey
/-! t[::-1], t a tuple -/
namespace Ey
open PySem PySem.Spec PyProof.Rows L2
theorem rev_pick (xs : Array Value) : ((List.range xs.size).filterMap fun (k : Nat) => xs[(((xs.size : Nat) : Int) - 1 + (k : Int) * (-1)).toNat]?).toArray = xs.toList.reverse.toArray := by
  have e : ((List.range xs.size).filterMap fun (k : Nat) => xs[(((xs.size : Nat) : Int) - 1 + (k : Int) * (-1)).toNat]?) = ((List.range xs.size).map fun k => xs.size - 1 - k).filterMap (xs[·]?) := by
    rw [List.filterMap_map]
    have go : ∀ l : List Nat, (∀ k ∈ l, k < xs.size) → (l.filterMap fun (k : Nat) => xs[(((xs.size : Nat) : Int) - 1 + (k : Int) * (-1)).toNat]?) = l.filterMap ((xs[·]?) ∘ fun k => xs.size - 1 - k) := by
      intro l
      induction l with
      | nil => intro _; rfl
      | cons k l ih =>
        intro h
        have hk := h k List.mem_cons_self
        have e1 : (((xs.size : Nat) : Int) - 1 + (k : Int) * (-1)).toNat = xs.size - 1 - k := by omega
        rw [List.filterMap_cons, List.filterMap_cons, ih fun j hj => h j (List.mem_cons_of_mem _ hj)]
        rw [e1, Function.comp_apply]
    exact go _ fun k hk => List.mem_range.mp hk
  rw [e, PySem.W.krv_range, List.filterMap_reverse, PySem.W.krv_all]
theorem rev_places (n : Nat) : Builtin.Slice.slicePlaces ((n : Int) - 1) (-1) (-1) = n := by
  unfold Builtin.Slice.slicePlaces
  rw [if_neg (by decide)]
  split
  · rw [show (- -1 : Int) = 1 by decide, Int.ediv_one]
    omega
  · omega
section
variable {prog : Program} {w : World} {A : Around} {E : Value → Shared → Prop} {s : Shared}
theorem applied_rev {sl : Addr} {vl vu vs : Value} {n : Nat} {Q : Int × Int × Nat → Shared → Prop} (hs : ∃ o, s.heap.get? sl = some o ∧ o.cls = .type "slice" ∧ o.data = .fields #[vl, vu, vs]) (pl : IsPart vl none) (pu : IsPart vu none) (ps : IsPart vs (some (-1)))
    (h : Q ((n : Int) - 1, -1, n) s) : wpAny (model prog w) A (Builtin.Slice.sliceApplied (.ref sl) (pure (n : Int))) Q E s := by
  obtain ⟨os, hos, hcs, hds⟩ := hs
  unfold Builtin.Slice.sliceApplied Builtin.Slice.sliceFields
  refine wpAny_bind (wpAny_bind (wpAny_field hos hds (x := vl) rfl (wpAny_bind (wpAny_field hos hds (x := vu) rfl (wpAny_bind (wpAny_field hos hds (x := vs) rfl (wpAny_pure ?_)))))))
  refine wpAny_bind (HT.slicePart_ ps ?_)
  show wpAny _ _ (if ((-1 : Int) == 0) = true then _ else _) _ _ s
  rw [if_neg (by decide)]
  refine wpAny_bind (HT.slicePart_ pl (wpAny_bind (HT.slicePart_ pu (wpAny_bind (wpAny_pure ?_)))))
  show wpAny _ _ (match Builtin.Slice.sliceAdjust none none (-1) (n : Int) with | (lo, hi) => pure (lo, (-1 : Int), Builtin.Slice.slicePlaces lo hi (-1))) _ _ s
  show wpAny _ _ (pure ((n : Int) - 1, (-1 : Int), Builtin.Slice.slicePlaces ((n : Int) - 1) (-1) (-1))) _ _ s
  rw [rev_places]
  exact wpAny_pure h
theorem getItem_tuple_rev {t sl : Addr} {items : Array Value} {vl vu vs : Value} {Q : Value → Shared → Prop} (ht : IsTup s.heap t items) (hs : ∃ o, s.heap.get? sl = some o ∧ o.cls = .type "slice" ∧ o.data = .fields #[vl, vu, vs]) (pl : IsPart vl none) (pu : IsPart vu none) (ps : IsPart vs (some (-1)))
    (h : Q (.ref s.heap.objs.size) { s with heap := s.heap.push { cls := .type "tuple", data := .seq items.toList.reverse.toArray } }) (hsz : items.size ≤ sizeLine) : wpAny (model prog w) A (getItem (.ref t) (.ref sl)) Q E s := by
  have htake : sizeOk (.seq items.toList.reverse.toArray) := by
    show items.toList.reverse.toArray.size ≤ sizeLine
    rw [List.size_toArray, List.length_reverse, Array.length_toList]
    exact hsz
  obtain ⟨os, hos, hcs, hds⟩ := id hs
  have hTs : s.TypeIs (.ref sl) "slice" := ⟨os, hos, hcs⟩
  unfold getItem
  try with_reducible refine wpAny_holding ?_
  first | refine wpAny_bind (wpAny_pure ?_) | skip
  refine wpAny_bind (wpAny_sequenceKey ht.typeIs (by decide) ?_)
  refine wpAny_bind (wpAny_callSpecial?_slot (name := Str.ofString "__getitem__") ht.typeIs PyProof.Rows.slot_tuple_getitem
    (wpAny_call_entry PyProof.Rows.slot_tuple_getitem ht.typeIs PyProof.Rows.entry_tuple_getitem ?_ (PyProof.Rows.args_tuple_getitem _ _)))
  show wpAny _ _ (Builtin.Tuple.tupleItemsOf (.ref t) >>= _) _ _ s
  refine wpAny_bind (tupleItemsOf_ ht ?_)
  refine wpAny_bind (wpAny_typeOf hTs ?_)
  rw [if_pos (by decide)]
  refine wpAny_bind (applied_rev hs pl pu ps ?_)
  have hno : ¬ ((((items.size : Nat) : Int) - 1 == 0 && (-1 : Int) == 1 && items.size == items.size) = true) := by
    rw [show ((-1 : Int) == 1) = false by decide, Bool.and_false, Bool.false_and]
    exact Bool.false_ne_true
  show wpAny _ _ (if (((items.size : Nat) : Int) - 1 == 0 && (-1 : Int) == 1 && items.size == items.size) = true then _ else _) _ _ s
  rw [if_neg hno, rev_pick]
  exact wpAny_bind (m := Builtin.Tuple.tupleExact _) (wpAny_newObj_type (wpAny_pure ⟨_, rfl, wpAny_pure h⟩) htake)
end
section
variable {X : Cx}
def tRevT (K : PySem.W.Frag) (te : TE) : TE := fun σ H Q => te σ H fun x H1 => ∃ a xs, x = .ref a ∧ SqT K H1 a xs ∧ ∀ p, H1 p = none → Q (.ref p) (upd H1 p (.tup xs.reverse))
theorem pe_revT {e : Expr} {te : TE} {k : Nat} {p1 p2 p3 pos : Pos} (he : PE X e te) : PE X (.Subscript e (.Slice none none (some (.UnaryOp .USub (.Constant (.int 1) k p1) p2)) p3) pos) (tRevT X.K te) := by
  refine ⟨fun pins s σ H Q I h => ?_⟩
  refine Subscript_ (thn (he.run pins s σ H _ I h) fun v s1 ⟨x, H1, I1, r1, q1⟩ => ?_)
  obtain ⟨a, xs, ex, hx, q⟩ := q1
  subst ex
  cases r1
  have hst : PO X (some (.UnaryOp .USub (.Constant (.int 1) k p1) p2)) (tPart (tUn (rU fun i => .int (-i)) (tC (.int 1)))) := po_some (pe_un un_neg pe_int)
  refine wpAny_Slice (thn (po_none.run pins s1 σ H1 (fun o H2 => o = none ∧ H2 = H1) I1 ⟨rfl, rfl⟩) fun vl s2 ⟨l, H2, I2, pl, el, e2⟩ => ?_)
  subst el e2
  refine thn (po_none.run pins s2 σ H2 (fun o H3 => o = none ∧ H3 = H2) I2 ⟨rfl, rfl⟩) fun vu s3 ⟨u, H3, I3, pu, eu, e3⟩ => ?_
  subst eu e3
  refine thn (hst.run pins s3 σ H3 (fun o H4 => o = some (-1) ∧ H4 = H3) I3 ⟨1, rfl, -1, rfl, rfl, rfl⟩) fun vs s4 ⟨o, H4, I4, ps, eo, e4⟩ => ?_
  subst eo e4
  have I5 : Inv X pins σ H4 { s4 with heap := s4.heap.push { cls := .type "slice", data := .fields #[vl, vu, vs] } } := I4.kept (t' := s4.toks) fun b ob q => Heap.get?_push_of_some _ q
  obtain ⟨its, r, ht, hz⟩ := I5.tuple hx
  have hlen := r.length
  show wpAny (model X.prog X.w) X.A (subscriptTail e (.Slice none none (some (.UnaryOp .USub (.Constant (.int 1) k p1) p2)) p3) (.ref a) (.ref s4.heap.objs.size)) (EP X pins σ Q) X.xe { s4 with heap := s4.heap.push { cls := .type "slice", data := .fields #[vl, vu, vs] } }
  refine tail_any (ops := [.ref a, .ref s4.heap.objs.size]) ht.typeIs (PyProof.Rows.slot_tuple_getitem.lookup) ?_ (by with_unfolding_all rfl)
  refine getItem_tuple_rev ht ⟨_, Heap.get?_push_size _ rfl, rfl, rfl⟩ pl pu ps ?_ (by rw [List.size_toArray]; omega)
  refine ⟨.ref _, _, I5.laid (t' := s4.toks) (o := .tup xs.reverse) (fun b ob q => Heap.get?_push_of_some _ q) (Nat.le_refl _) ?_, rfl, q _ (I5.hok.fresh (Nat.le_refl _))⟩
  exact ⟨by rw [List.length_reverse]; exact hz, _, r.reverse, IsTup.new _ _⟩
end
end Ey
/-! ### statements over data -/
namespace Ey
open PySem PySem.Spec PyProof.Rows L2
structure DEnds where
  nx : Env → Prop
  rt : PyData → Prop
  bk : Env → Prop := fun _ => False
  ct : Env → Prop := fun _ => False
abbrev DS := DEnds → Env → Prop
/-- the ends meet -/
structure EO (f : Fx) (L : List Addr) (H : Hp) (D : DEnds) (E : Ends) : Prop where
  nx : ∀ L' σ' H' ρ', Tr f L H L' H' → Rel f L' σ' H' ρ' → D.nx ρ' → E.nx σ' H'
  bk : ∀ L' σ' H' ρ', Tr f L H L' H' → Rel f L' σ' H' ρ' → D.bk ρ' → E.bk σ' H'
  ct : ∀ L' σ' H' ρ', Tr f L H L' H' → Rel f L' σ' H' ρ' → D.ct ρ' → E.ct σ' H'
  rt : ∀ v H' x, Go f f.H0 H' → Dd f.F0 H' v x → D.rt x → E.rt v H'
def SS (f : Fx) (ts : TS) (t : DS) : Prop := ∀ (L : List Addr) (σ : L2.St) (H : Hp) (ρ : Env) (D : DEnds) (E : Ends), Rel f L σ H ρ → t D ρ → EO f L H D E → ts E σ H
def demote : Sl → Sl
  | .own xs => .d (.list xs)
  | s => s
def dem (ρ : Env) : Env := ρ.map demote
def dNext : DS := fun D ρ => D.nx ρ
def dSeq (t u : DS) : DS := fun D ρ => t { D with nx := u D } ρ
def dCut (t u : DS) : DS := fun D ρ => ∃ Mid : Env → Prop, t { D with nx := Mid } ρ ∧ ∀ ρ', Mid ρ' → u D ρ'
def dIfS (c : DT) (t u : DS) : DS := fun D ρ => c ρ fun b => iteB b (t D ρ) (u D ρ)
def dRet (t : DE) : DS := fun D ρ => t (dem ρ) D.rt
def dRetN : DS := fun D _ => D.rt .none
def dCont : DS := fun D ρ => D.ct ρ
def dBreak : DS := fun D ρ => D.bk ρ
def dAsg (t : DE) (g : DG) : DS := fun D ρ => t ρ fun x => g x ρ D.nx
def dAsgO (t : Env → (List PyData → Prop) → Prop) (i : Nat) : DS := fun D ρ => t ρ fun xs => D.nx (ρ.set i (.own xs))
def dPar (i j : Nat) (t : DA) : DS := fun D ρ => t ρ fun xs => onTwo xs fun x y => D.nx ((ρ.set i (.d x)).set j (.d y))
def dDrop (t : DE) : DS := fun D ρ => t ρ fun _ => D.nx ρ
def dAppend (i : Nat) (t : DE) : DS := fun D ρ => onOwn ρ[i]? fun xs => xs.length < 100000 ∧ t ρ fun y => D.nx (ρ.set i (.own (xs ++ [y])))
def dExtend (i : Nat) (t : DE) : DS := fun D ρ => onOwn ρ[i]? fun xs => t ρ fun y => onLst y fun ys => xs.length + ys.length ≤ 100000 ∧ D.nx (ρ.set i (.own (xs ++ ys)))
def dStore (i : Nat) (t : DE) (k : Int) : DS := fun D ρ => t ρ fun y => onOwn ρ[i]? fun xs => onSome (ixN xs.length k) fun n => D.nx (ρ.set i (.own (xs.set n y)))
def dRaise (Ed : Str → PyData → Prop) (c : Str) (t : DA) : DS := fun _ ρ => t ρ fun xs => onOne xs fun x => Ed c x
/-- a slot's list is its own no more -/
def dDem (i : Nat) (t : DS) : DS := fun D ρ => onOwn ρ[i]? fun xs => t D (ρ.set i (.d (.list xs)))
def dLoop (g : DG) (b : DS) (D : DEnds) : List PyData → Env → Prop
  | [], ρ => D.nx ρ
  | x :: xs, ρ => g x ρ fun ρ1 => b { nx := dLoop g b D xs, ct := dLoop g b D xs, bk := D.nx, rt := D.rt } ρ1
def dFor (di : DI) (g : DG) (b : DS) : DS := fun D ρ => di ρ fun xs => dLoop g b D xs ρ
def dWh (c : DT) (b : DS) (D : DEnds) : Nat → Env → Prop
  | 0, _ => False
  | n + 1, ρ => c ρ fun k => iteB k (b { nx := dWh c b D n, ct := dWh c b D n, bk := D.nx, rt := D.rt } ρ) (D.nx ρ)
def dWhile (c : DT) (b : DS) : DS := fun D ρ => ∃ n, dWh c b D n ρ
section
variable {f : Fx} {L L' : List Addr} {σ σ' : L2.St} {H H' : Hp} {ρ ρ' : Env} {D : DEnds} {E : Ends} {ta tb : TE} {da db : DE} {tA : TT} {dA : DT} {sa : TA} {ea : DA} {t u : TS} {d e : DS}
theorem EO.tr (o : EO f L H D E) (dk : f.deck H') (t : Tr f L H L' H') : EO f L' H' D E :=
  ⟨fun L2 σ2 H2 ρ2 t2 r q => o.nx _ _ _ _ (t.trans dk t2) r q, fun L2 σ2 H2 ρ2 t2 r q => o.bk _ _ _ _ (t.trans dk t2) r q, fun L2 σ2 H2 ρ2 t2 r q => o.ct _ _ _ _ (t.trans dk t2) r q, o.rt⟩
theorem EO.go (o : EO f L H D E) (g : Go f H H') : EO f L H' D E := o.tr g.dk (Tr.of g)
theorem ss_next : SS f tNext dNext := fun L σ H ρ D E r q o => o.nx L σ H ρ Tr.refl r q
theorem ss_seq (h1 : SS f t d) (h2 : SS f u e) : SS f (tSeq t u) (dSeq d e) := fun L σ H ρ D E r q o =>
  h1 L σ H ρ _ _ r q ⟨fun L' σ' H' ρ' t r' q' => h2 L' σ' H' ρ' D E r' q' (o.tr r'.deck t), o.bk, o.ct, o.rt⟩
theorem ss_cut (h1 : SS f t d) (h2 : SS f u e) : SS f (Evl.tCut t u) (dCut d e) := fun L σ H ρ D E r q o => by
  obtain ⟨Mid, q, k⟩ := q
  refine ⟨fun σ' H' => ∃ L' ρ', Tr f L H L' H' ∧ Rel f L' σ' H' ρ' ∧ Mid ρ', ?_, ?_⟩
  · exact h1 L σ H ρ _ _ r q ⟨fun L' σ' H' ρ' t r' q' => ⟨L', ρ', t, r', q'⟩, o.bk, o.ct, o.rt⟩
  · rintro σ' H' ⟨L', ρ', t, r', q'⟩
    exact h2 L' σ' H' ρ' D E r' (k ρ' q') (o.tr r'.deck t)
theorem ss_if (hc : ST f tA dA) (h1 : SS f t d) (h2 : SS f u e) : SS f (tIfS tA t u) (dIfS dA d e) := fun L σ H ρ D E r q o =>
  hc L σ H ρ _ _ r q fun b H1 g q => by
    cases b with
    | true => exact h1 L σ H1 ρ D E (r.mv g) q (o.go g)
    | false => exact h2 L σ H1 ρ D E (r.mv g) q (o.go g)
theorem Rel.dem (r : Rel f L σ H ρ) : Rel f [] σ H (dem ρ) := by
  have wk : ∀ {v : V} {x : PyData}, Dd (Fr f L) H v x → Dd (Fr f []) H v x := fun d => d.imp fun a o _ h => ⟨h.1, fun m => by cases m⟩
  refine ⟨r.ok, r.go, (by unfold Ey.dem; rw [List.length_map]; exact r.len), fun a h => (by cases h), fun i s e => ?_, fun i j xs ys e _ _ => ?_⟩
  · unfold Ey.dem at e
    rw [List.getElem?_map] at e
    cases es : ρ[i]? with
    | none => rw [es] at e; cases e
    | some s0 =>
      rw [es] at e
      cases e
      obtain ⟨o, eo, q⟩ := r.sl i s0 es
      refine ⟨o, eo, ?_⟩
      cases s0 with
      | any => trivial
      | d x =>
        obtain ⟨v, e1, d⟩ := q
        exact ⟨v, e1, wk d⟩
      | own xs =>
        obtain ⟨a, vs, rfl, m, ea, d⟩ := q
        exact ⟨.ref a, rfl, .lst ⟨r.ok.opn a (r.own a m).1, fun m => by cases m⟩ ea (d.imp fun a o _ h => ⟨h.1, fun m => by cases m⟩)⟩
      | dk => exact q
  · unfold Ey.dem at e
    rw [List.getElem?_map] at e
    cases es : ρ[i]? with
    | none => rw [es] at e; cases e
    | some s0 =>
      rw [es] at e
      cases s0 <;> cases e
theorem ss_ret (h : SE f ta da) : SS f (tRet ta) (dRet da) := fun L σ H ρ D E r q o =>
  h [] σ H (dem ρ) _ _ r.dem q fun v H1 x g d q => o.rt v H1 x (r.go.trans g) (dd_weak d) q
theorem ss_retN : SS f tRetN dRetN := fun L σ H ρ D E r q o => o.rt .non H .none r.go .non q
theorem ss_cont : SS f tCont dCont := fun L σ H ρ D E r q o => o.ct L σ H ρ Tr.refl r q
theorem ss_break : SS f tBreak dBreak := fun L σ H ρ D E r q o => o.bk L σ H ρ Tr.refl r q
theorem ss_asg {g : TG} {dg : DG} {is : List Nat} (h : SE f ta da) (hg : SG f is g dg) : SS f (tAsg ta g) (dAsg da dg) := fun L σ H ρ D E r q o =>
  h L σ H ρ _ _ r q fun v H1 x g d q => hg L σ H1 ρ v x _ _ (r.mv g) d q fun σ' ρ' r' _ q => o.nx L σ' H1 ρ' (Tr.of g) r' q
theorem sep_new (r : Rel f L σ H ρ) {p : Addr} (n : H p = none) : Sep σ ρ (.ref p) := fun j ys e z => by
  obtain ⟨o, eo, a, vs, rfl, m, ea, _⟩ := r.sl j _ e
  rw [z] at eo
  cases eo
  rw [n] at ea
  cases ea
theorem ss_asgO {i : Nat} {da : Env → (List PyData → Prop) → Prop} (h : SEo f ta da) : SS f (tAsg ta (gName i)) (dAsgO da i) := fun L σ H ρ D E r q o =>
  h L σ H ρ _ _ r q fun p vs H1 xs g n ep d q => by
    have r1 := r.push g n ep
    exact o.nx (p :: L) _ H1 _ (tr_push r g n) (r1.set (s := .own xs) ⟨p, vs, rfl, List.mem_cons_self, ep, d⟩ fun ys _ => sep_new r n) q
theorem ss_par {i j : Nat} (h : SA f sa ea) : SS f (tPar i j sa) (dPar i j ea) := fun L σ H ρ D E r q o =>
  h L σ H ρ _ _ r q fun vs H1 xs g d q => by
    replace q := inv_two q
    obtain ⟨x, y, rfl, q⟩ := q
    cases d with
    | cons a b =>
      cases b with
      | cons b c =>
        cases c
        exact ⟨_, _, rfl, o.nx L _ H1 _ (Tr.of g) (((r.mv g).setD a).setD b) q⟩
theorem ss_drop (h : SE f ta da) : SS f (tDrop ta) (dDrop da) := fun L σ H ρ D E r q o =>
  h L σ H ρ _ _ r q fun v H1 x g d q => o.nx L σ H1 ρ (Tr.of g) (r.mv g) q
/-- an own list changed -/
theorem Rel.mut (r : Rel f L σ H ρ) {i : Nat} {xs ys : List PyData} {a : Addr} {vs us : List V} (e : ρ[i]? = some (.own xs)) (es : σ[i]? = some (some (.ref a))) (m : a ∈ L) (ea : H a = some (.lst vs)) (d : DdAll (Fr f L) H us ys) :
    Rel f L σ (upd H a (.lst us)) (ρ.set i (.own ys)) ∧ Tr f L H L (upd H a (.lst us)) := by
  have t : Tr f L H L (upd H a (.lst us)) := ⟨fun _ h => .inl h, fun b o eb n nm => by
    rw [upd_ne fun z => nm (by rw [z]; exact m)]
    exact eb⟩
  refine ⟨⟨r.ok, ⟨fun b o eb n => ?_, fun d0 l0 ed => ?_⟩, by rw [List.length_set]; exact r.len, fun b hb => ⟨(r.own b hb).1, ?_⟩, fun j s ej => ?_, fun j k y1 y2 e1 e2 e3 => ?_⟩, t⟩
  · have na : b ≠ a := fun z => by
      have := (r.own a m).1
      rw [z, this] at eb
      cases eb
    rw [upd_ne na]
    exact r.go.kp b o eb n
  · obtain ⟨ns, m', k', h1, h2, h3⟩ := (r.deck d0 l0 ed).ex
    obtain ⟨n1, n2⟩ := r.own_off m d0 l0 ed
    exact ⟨ns, m', k', h1, by rw [upd_ne n1.symm]; exact h2, by rw [upd_ne n2.symm]; exact h3⟩
  · by_cases hb' : b = a
    · subst hb'
      exact ⟨us, upd_same⟩
    · obtain ⟨ws, ew⟩ := (r.own b hb).2
      exact ⟨ws, by rw [upd_ne hb']; exact ew⟩
  · rw [List.getElem?_set] at ej
    by_cases hij : i = j
    · subst hij
      rw [if_pos rfl] at ej
      split at ej
      · cases ej
        exact ⟨_, es, a, us, rfl, m, upd_same, t.dds r d⟩
      · cases ej
    · rw [if_neg hij] at ej
      obtain ⟨o, eo, q⟩ := r.sl j s ej
      refine ⟨o, eo, ?_⟩
      cases s with
      | any => trivial
      | d x =>
        obtain ⟨v, e1, d1⟩ := q
        exact ⟨v, e1, t.dd r d1⟩
      | own zs =>
        obtain ⟨b, ws, rfl, mb, eb, d1⟩ := q
        have nb : b ≠ a := fun z => by
          subst z
          exact hij (r.inj i j _ _ e ej (es.trans eo.symm))
        exact ⟨b, ws, rfl, mb, by rw [upd_ne nb]; exact eb, t.dds r d1⟩
      | dk => exact q
  · have nl : ∀ {n : Nat} {ws : List PyData}, (ρ.set i (.own ys))[n]? = some (.own ws) → ∃ ws', ρ[n]? = some (.own ws') := fun {n ws} h => by
      rw [List.getElem?_set] at h
      by_cases hin : i = n
      · subst hin
        exact ⟨xs, e⟩
      · rw [if_neg hin] at h
        exact ⟨ws, h⟩
    obtain ⟨w1, f1⟩ := nl e1
    obtain ⟨w2, f2⟩ := nl e2
    exact r.inj j k _ _ f1 f2 e3
theorem own_at (r : Rel f L σ H ρ) {i : Nat} {xs : List PyData} (e : ρ[i]? = some (.own xs)) : ∃ a vs, σ[i]? = some (some (.ref a)) ∧ a ∈ L ∧ H a = some (.lst vs) ∧ DdAll (Fr f L) H vs xs := by
  obtain ⟨o, eo, a, vs, rfl, m, ea, d⟩ := r.sl i _ e
  exact ⟨a, vs, eo, m, ea, d⟩
theorem ss_append {K : PySem.W.Frag} {i : Nat} (h : SE f ta da) : SS f (tDrop (tBM K "list" rAppend (tVar i) (tCons ta tNil))) (dAppend i da) := fun L σ H ρ D E r q o => by
  replace q := inv_own q
  obtain ⟨xs, e0, hl, q⟩ := q
  obtain ⟨a, vs, es, m, ea, d0⟩ := own_at r e0
  refine ⟨.ref a, es, .inl ⟨rfl, vs, SqL.of ea⟩, h L σ H ρ _ _ r q fun v H1 x g dx q => ?_⟩
  have r1 := r.mv g
  have e2 := g.kp a _ ea (r.own_off m)
  have d1 := r.dds g d0
  refine ⟨a, vs, v, rfl, rfl, e2, by rw [d0.length]; exact Nat.lt_trans hl (by decide), ?_⟩
  obtain ⟨r2, t2⟩ := r1.mut e0 es m e2 (dds_app d1 (.cons dx .nil))
  exact o.nx L σ _ _ ((Tr.of g).trans g.dk t2) r2 q
theorem ss_extend {K : PySem.W.Frag} {i : Nat} (h : SE f ta da) : SS f (tDrop (tBM K "list" rExtend (tVar i) (tCons ta tNil))) (dExtend i da) := fun L σ H ρ D E r q o => by
  replace q := inv_own q
  obtain ⟨xs, e0, q⟩ := q
  obtain ⟨a, vs, es, m, ea, d0⟩ := own_at r e0
  refine ⟨.ref a, es, .inl ⟨rfl, vs, SqL.of ea⟩, h L σ H ρ _ _ r q fun v H1 x g dx q => ?_⟩
  replace q := inv_lst q
  obtain ⟨ys, rfl, hl, q⟩ := q
  have r1 := r.mv g
  have e2 := g.kp a _ ea (r.own_off m)
  have d1 := r.dds g d0
  cases dx with
  | lst fb eb db =>
    refine ⟨a, _, vs, _, rfl, rfl, e2, eb, by rw [d0.length, db.length]; exact Nat.le_trans hl (by decide), ?_⟩
    obtain ⟨r2, t2⟩ := r1.mut e0 es m e2 (dds_app d1 db)
    exact o.nx L σ _ _ ((Tr.of g).trans g.dk t2) r2 q
theorem dds_set {F : Addr → Prop} {H : Hp} {v : V} {x : PyData} (d : Dd F H v x) : ∀ (n : Nat) {vs : List V} {xs : List PyData}, DdAll F H vs xs → DdAll F H (vs.set n v) (xs.set n x)
  | _, _, _, .nil => .nil
  | 0, _, _, .cons a b => .cons d b
  | n + 1, _, _, .cons a b => .cons a (dds_set d n b)
theorem ss_store {i : Nat} {k : Int} (h : SE f ta da) : SS f (tAsg ta (gSub (tVar i) (tC (.int k)) rSetL)) (dStore i da k) := fun L σ H ρ D E r q o =>
  h L σ H ρ _ _ r q fun v H1 x g dx q => by
    replace q := inv_own q
    obtain ⟨xs, e0, q⟩ := q
    replace q := inv_some q
    obtain ⟨n, hn, q⟩ := q
    have r1 := r.mv g
    obtain ⟨a, vs, es, m, ea, d0⟩ := own_at r1 e0
    refine ⟨_, es, a, vs, k, n, rfl, rfl, ea, by rw [d0.length]; exact hn, ?_⟩
    obtain ⟨r2, t2⟩ := r1.mut e0 es m ea (dds_set dx n d0)
    exact o.nx L σ _ _ ((Tr.of g).trans g.dk t2) r2 q
theorem ss_loop {wi : TI} {di : DI} {g : TG} {dg : DG} {is : List Nat} (hi : SI f wi di) (hg : SG f is g dg) (hb : SS f t d) : SS f (tFor wi g t) (dFor di dg d) := fun L σ H ρ D E r q o =>
  hi L σ H ρ _ _ r q fun J H1 xs g1 it q => by
    have r1 := r.mv g1
    have o1 := o.go g1
    let W : Nat → Nat → L2.St → Hp → Prop := fun i m σ2 H2 => m = xs.length - i ∧ i ≤ xs.length ∧ ∃ L2 ρ2, Tr f L H1 L2 H2 ∧ Rel f L2 σ2 H2 ρ2 ∧ dLoop dg d D (xs.drop i) ρ2
    refine ⟨W, ⟨xs.length, by simp, Nat.zero_le _, L, ρ, Tr.refl, r1, q⟩, ?_⟩
    rintro i m σ2 H2 ⟨rfl, hi, L2, ρ2, t2, r2, q2⟩
    by_cases hlt : i < xs.length
    · refine .inr ⟨it.go i _ H2 hlt t2 r2.deck, W (i + 1) (xs.length - (i + 1)), fun σ' H' w => ⟨_, by omega, w⟩, fun v H3 y => ?_⟩
      obtain ⟨g3, dx⟩ := it.yld i xs[i] _ H2 v H3 (List.getElem?_eq_getElem hlt) t2 r2.bare y
      rw [List.drop_eq_getElem_cons hlt] at q2
      refine hg L2 σ2 H3 ρ2 v _ _ _ (r2.mv g3) dx q2 fun σ4 ρ4 r4 _ q4 => ?_
      have t3 : Tr f L H1 L2 H3 := t2.trans r2.deck (Tr.of g3)
      refine hb L2 σ4 H3 ρ4 _ _ r4 q4 ⟨fun L' σ' H' ρ' t' r' q' => ?_, fun L' σ' H' ρ' t' r' q' => ?_, fun L' σ' H' ρ' t' r' q' => ?_, o.rt⟩
      · exact ⟨rfl, hlt, L', ρ', t3.trans r4.deck t', r', q'⟩
      · exact o1.nx L' σ' H' ρ' (t3.trans r4.deck t') r' q'
      · exact ⟨rfl, hlt, L', ρ', t3.trans r4.deck t', r', q'⟩
    · have e : i = xs.length := by omega
      subst e
      rw [List.drop_length] at q2
      exact .inl ⟨it.stop _ H2 t2 r2.deck, o1.nx L2 σ2 H2 ρ2 t2 r2 q2⟩
theorem ss_while (hc : ST f tA dA) (hb : SS f t d) : SS f (tWhile tA t) (dWhile dA d) := fun L σ H ρ D E r q o => by
  obtain ⟨n, q⟩ := q
  refine ⟨fun m σ2 H2 => ∃ L2 ρ2, Tr f L H L2 H2 ∧ Rel f L2 σ2 H2 ρ2 ∧ dWh dA d D m ρ2, ⟨n, L, ρ, Tr.refl, r, q⟩, ?_⟩
  rintro m σ2 H2 ⟨L2, ρ2, t2, r2, q2⟩
  cases m with
  | zero => exact q2.elim
  | succ m =>
    refine hc L2 σ2 H2 ρ2 _ _ r2 q2 fun b H3 g3 q3 => ?_
    have t3 : Tr f L H L2 H3 := t2.trans r2.deck (Tr.of g3)
    have r3 := r2.mv g3
    cases b with
    | true =>
      refine ⟨fun σ' H' => ∃ L' ρ', Tr f L H L' H' ∧ Rel f L' σ' H' ρ' ∧ dWh dA d D m ρ', fun σ' H' w => ⟨m, Nat.lt_succ_self m, w⟩, ?_⟩
      exact hb L2 σ2 H3 ρ2 _ _ r3 q3 ⟨fun L' σ' H' ρ' t' r' q' => ⟨L', ρ', t3.trans r3.deck t', r', q'⟩, fun L' σ' H' ρ' t' r' q' => o.nx L' σ' H' ρ' (t3.trans r3.deck t') r' q', fun L' σ' H' ρ' t' r' q' => ⟨L', ρ', t3.trans r3.deck t', r', q'⟩, o.rt⟩
    | false => exact o.nx L2 σ2 H3 ρ2 t3 r3 q3
theorem ss_raise {C : Addr} {c fld : Str} {W : WX} {X : XK} {cl : Str → Addr} (hE : f.E = X) (hcl : f.cl = cl) (hC : cl c = C) (hf : fldOf c = fld) (hW : ∀ cls d σ H', X cls d H' → W cls d σ H') (h : SA f sa ea) : SS f (tRaiseEr C fld W sa) (dRaise f.Ed c ea) := fun L σ H ρ D E r q o =>
  h L σ H ρ _ _ r q fun vs H1 xs g d q => by
    replace q := inv_one q
    obtain ⟨x, rfl, q⟩ := q
    cases d with
    | cons a b =>
      cases b
      refine ⟨_, rfl, fun p np => hW _ _ _ _ ?_⟩
      have r1 := r.mv g
      rw [← hC, ← hcl, ← hE]
      exact r.ok.ex c x p _ _ q (r1.go.new np) (r1.fresh np) (by rw [hf]; exact upd_same) ((dd_weak a).keep (keep_of0 r.ok r1.deck (r1.new np)))
theorem Rel.dem1 (r : Rel f L σ H ρ) {i : Nat} {xs : List PyData} (e : ρ[i]? = some (.own xs)) : ∃ L', Tr f L H L' H ∧ Rel f L' σ H (ρ.set i (.d (.list xs))) := by
  obtain ⟨a, vs, es, m, ea, d0⟩ := own_at r e
  have wk : ∀ b, Fr f L b → Fr f (L.filter (· ≠ a)) b := fun b h => ⟨h.1, fun m => h.2 ((List.mem_filter.mp m).1)⟩
  refine ⟨L.filter (· ≠ a), ⟨fun b h => .inl (List.mem_filter.mp h).1, fun _ _ e _ _ => e⟩, r.ok, r.go, (by rw [List.length_set]; exact r.len), fun b h => r.own b (List.mem_filter.mp h).1, fun j s ej => ?_, fun j k y1 y2 e1 e2 e3 => ?_⟩
  · rw [List.getElem?_set] at ej
    by_cases hij : i = j
    · subst hij
      rw [if_pos rfl] at ej
      split at ej
      · cases ej
        refine ⟨_, es, .ref a, rfl, .lst ⟨r.ok.opn a (r.own a m).1, fun h => ?_⟩ ea (d0.imp fun b _ _ h => wk b h)⟩
        have := (List.mem_filter.mp h).2
        simp at this
      · cases ej
    · rw [if_neg hij] at ej
      obtain ⟨o, eo, q⟩ := r.sl j s ej
      refine ⟨o, eo, ?_⟩
      cases s with
      | any => trivial
      | d x =>
        obtain ⟨v, e1, d1⟩ := q
        exact ⟨v, e1, d1.imp fun b _ _ h => wk b h⟩
      | own zs =>
        obtain ⟨b, ws, rfl, mb, eb, d1⟩ := q
        have nb : b ≠ a := fun z => by
          subst z
          exact hij (r.inj i j _ _ e ej (es.trans eo.symm))
        exact ⟨b, ws, rfl, List.mem_filter.mpr ⟨mb, by simpa using nb⟩, eb, d1.imp fun b _ _ h => wk b h⟩
      | dk => exact q
  · have nl : ∀ {n : Nat} {ws : List PyData}, (ρ.set i (.d (.list xs)))[n]? = some (.own ws) → ρ[n]? = some (.own ws) := fun {n ws} h => by
      rw [List.getElem?_set] at h
      by_cases hin : i = n
      · rw [if_pos hin] at h
        split at h <;> cases h
      · rw [if_neg hin] at h
        exact h
    exact r.inj j k _ _ (nl e1) (nl e2) e3
theorem ss_dem {i : Nat} (h : SS f t d) : SS f t (dDem i d) := fun L σ H ρ D E r q o => by
  replace q := inv_own q
  obtain ⟨xs, e, q⟩ := q
  obtain ⟨L', t', r'⟩ := r.dem1 e
  exact h L' σ H _ D E r' q (o.tr r.deck t')
end
/-! ### a def -/
def startD (k : Bool) (n : Nat) (ds : List PyData) : Env := (if k = true then [Sl.dk] else []) ++ (ds.map Sl.d ++ List.replicate (n - (ds.length + (if k = true then 1 else 0))) Sl.any)
theorem sl_start {f : Fx} {H : Hp} {m : Nat} : ∀ {us : List V} {ds : List PyData}, DdAll (Fr f []) H us ds → ∀ (i : Nat) (s : Sl), (ds.map Sl.d ++ List.replicate m Sl.any)[i]? = some s → ∃ o, (us.map some ++ List.replicate m none)[i]? = some o ∧ SlR f [] H s o
  | _, _, .nil, i, s, e => by
    rw [List.map_nil, List.nil_append] at e ⊢
    rw [List.getElem?_replicate] at e
    by_cases h : i < m
    · rw [if_pos h] at e
      cases e
      exact ⟨none, by rw [List.getElem?_replicate, if_pos h], trivial⟩
    · rw [if_neg h] at e
      cases e
  | _, _, .cons a b, 0, s, e => by
    cases e
    exact ⟨_, rfl, _, rfl, a⟩
  | _, _, .cons a b, i + 1, s, e => sl_start b i s (by simpa using e)
theorem no_own {ds : List PyData} {m i : Nat} {xs : List PyData} : (ds.map Sl.d ++ List.replicate m Sl.any)[i]? ≠ some (.own xs) := fun e => by
  have h := List.mem_of_getElem? e
  rw [List.mem_append, List.mem_map, List.mem_replicate] at h
  rcases h with ⟨x, _, h⟩ | ⟨_, h⟩ <;> cases h
theorem rel_start {f : Fx} {k : Bool} {N : List Str} {vs us : List V} {ds : List PyData} (ok : f.Ok) (d : DdAll f.F0 f.H0 us ds) (hv : if k = true then ∃ d l, f.D = some (d, l) ∧ vs = .ref d :: us else f.D = none ∧ vs = us) :
    Rel f [] (L2.start N vs) f.H0 (startD k N.length ds) := by
  have d' : DdAll (Fr f []) f.H0 us ds := d.imp fun _ _ _ h => ⟨h, fun m => by cases m⟩
  have hl := d.length
  cases k with
  | false =>
    obtain ⟨_, rfl⟩ := hv
    have e : startD false N.length ds = ds.map Sl.d ++ List.replicate (N.length - vs.length) Sl.any := by unfold startD; simp [hl]
    rw [e]
    refine ⟨ok, Go.refl ok.dk, (by unfold L2.start; simp [hl]), fun a h => (by cases h), fun i s es => ?_, fun i j xs ys e1 => absurd e1 no_own⟩
    exact sl_start d' i s es
  | true =>
    obtain ⟨dd, l, eD, rfl⟩ := hv
    have e : startD true N.length ds = .dk :: (ds.map Sl.d ++ List.replicate (N.length - (us.length + 1)) Sl.any) := by unfold startD; simp [hl]
    rw [e]
    refine ⟨ok, Go.refl ok.dk, (by unfold L2.start; simp [hl]), fun a h => (by cases h), fun i s es => ?_, fun i j xs ys e1 => ?_⟩
    · cases i with
      | zero =>
        cases es
        exact ⟨_, rfl, dd, l, eD, rfl⟩
      | succ i =>
        obtain ⟨o, eo, q⟩ := sl_start d' i s (by simpa using es)
        exact ⟨o, by unfold L2.start; simpa using eo, q⟩
    · cases i with
      | zero => cases e1
      | succ i => exact absurd (show (ds.map Sl.d ++ List.replicate _ Sl.any)[i]? = _ by simpa using e1) no_own
def dends (Q : PyData → Prop) : DEnds := { nx := fun _ => Q .none, rt := Q }
section
variable {P : Program} {w : World} {K : PySem.W.Frag} {mg : Str → Option Value} {base : Heap} {x : Str} {st : Stmt} {N ps : List Str} {lv n : Nat} {cl : Str → Addr} {m : Md} {kk : Bool}
theorem run_data {f : Fx} {ts : TS} {t : DS} {vs us : List V} {ds : List PyData} {Qd : PyData → Prop} {Q : VK} (h : SS f ts t) (ok : f.Ok) (hv : if kk = true then ∃ d l, f.D = some (d, l) ∧ vs = .ref d :: us else f.D = none ∧ vs = us) (d : DdAll f.F0 f.H0 us ds)
    (q : t (dends Qd) (startD kk N.length ds)) (c : ∀ v H' x, Go f f.H0 H' → Dd f.F0 H' v x → Qd x → Q v H') : ts { nx := fun _ H' => Q .non H', rt := Q } (L2.start N vs) f.H0 :=
  h [] _ _ _ (dends Qd) _ (rel_start ok d hv) q ⟨fun L' σ' H' ρ' _ r q => c .non H' .none r.go .non q, fun _ _ _ _ _ _ q => q.elim, fun _ _ _ _ _ _ q => q.elim, c⟩
theorem len_data (hm : ∀ ds Q E, m ds Q E → ds.length = n) (hn : ps.length = if kk = true then n + 1 else n) : ∀ vs H Q E, spD kk cl m vs H Q E → vs.length = ps.length := fun vs H Q E h => by
  obtain ⟨f, ds, Qd, us, ok, _, _, _, hv, d, q, _⟩ := h
  have l1 := d.length
  have l2 := hm _ _ _ q
  rw [hn]
  cases kk with
  | true =>
    obtain ⟨dd, l, _, rfl⟩ := hv
    show us.length + 1 = n + 1
    omega
  | false =>
    obtain ⟨_, rfl⟩ := hv
    show vs.length = n
    omega
/-- a def that never raises -/
theorem fk_mk0 (S : At K mg x st) (sc : FnScope N ps (defScope st)) (bd : ∀ f fd, Fun K x x st f fd → Binds K fd ps []) (hm : ∀ ds Q E, m ds Q E → ds.length = n) (hn : ps.length = if kk = true then n + 1 else n)
    (hb : ∀ (fa : Addr) (cdv : Value) (A : Around) (outer : List PySem.Env) (s : Shared) (H : Hp) (E : XK), Room lv (A.deeper (envOfC x (defScope st) s.heap.objs.size fa cdv)) →
      ∃ ts, PSs (cxOf CX0 P w K mg base N x (defScope st) fa cdv A outer s H E).nox (defBody st) ts ∧ ∀ f : Fx, f.cl = cl → ∃ t, SS f ts t ∧ ∀ ds Qd, m ds Qd f.Ed → t (dends Qd) (startD kk N.length ds)) : Fk P w K mg base CX0 (lv + 1) x ps (spD kk cl m) := by
  obtain ⟨fa, fd, F, g⟩ := S.ex
  refine ⟨fa, fd, F.ok sc (len_data hm hn) (fun cdv A outer s H vs Q E hr h => ?_), bd _ _ F, g, F.kp, fun_lk F⟩
  obtain ⟨f, ds, Qd, us, ok, rfl, _, hcl, hv, d, q, c⟩ := h
  obtain ⟨ts, p, h⟩ := hb fa cdv A outer s f.H0 E hr
  obtain ⟨t, hs, hq⟩ := h f hcl
  exact ⟨ts, p, run_data hs ok hv d (hq ds Qd q) c⟩
/-- a def that may raise -/
theorem fk_mkX (S : At K mg x st) (sc : FnScope N ps (defScope st)) (bd : ∀ f fd, Fun K x x st f fd → Binds K fd ps []) (hm : ∀ ds Q E, m ds Q E → ds.length = n) (hn : ps.length = if kk = true then n + 1 else n)
    (hb : ∀ (fa : Addr) (cdv : Value) (A : Around) (outer : List PySem.Env) (s : Shared) (H : Hp) (E : XK), Room lv (A.deeper (envOfC x (defScope st) s.heap.objs.size fa cdv)) →
      ∃ ts, PSs (cxOf (L2.CX P w) P w K mg base N x (defScope st) fa cdv A outer s H E) (defBody st) ts ∧ ∀ f : Fx, f.cl = cl → f.E = E → ∃ t, SS f ts t ∧ ∀ ds Qd, m ds Qd f.Ed → t (dends Qd) (startD kk N.length ds)) : Fk P w K mg base (L2.CX P w) (lv + 1) x ps (spD kk cl m) := by
  obtain ⟨fa, fd, F, g⟩ := S.ex
  refine ⟨fa, fd, F.okX sc (len_data hm hn) (fun cdv A outer s H vs Q E hr h => ?_), bd _ _ F, g, F.kp, fun_lk F⟩
  obtain ⟨f, ds, Qd, us, ok, rfl, rfl, hcl, hv, d, q, c⟩ := h
  obtain ⟨ts, p, h⟩ := hb fa cdv A outer s f.H0 f.E hr
  obtain ⟨t, hs, hq⟩ := h f hcl rfl
  exact ⟨ts, p, run_data hs ok hv d (hq ds Qd q) c⟩
end
end Ey
/-! ### the rules, K told -/
namespace Ey
open PySem PySem.Spec PyProof.Rows L2
/-- over a list, a tuple, a text -/
def iAny (K : PySem.W.Frag) (t : TE) : TI := fun σ H R => t σ H fun x H1 => (∃ a, x = .ref a ∧ (((∃ xs, SqL K H1 a xs) ∧ R (Itl K a) H1) ∨ ((∃ xs, SqT K H1 a xs) ∧ R (Itt K a) H1))) ∨ ∃ z, x = .str z ∧ R (Its z) H1
def dItemsA (t : DE) : DI := fun ρ Q => t ρ fun x => byD x (t := Q) (l := Q) (z := fun z => Q (z.cps.toList.map fun c => .str ⟨#[c]⟩))
section
variable {X : Cx} {K : PySem.W.Frag} (hK : X.K = K) {a b c e l tg : Expr} {ta tb tc te tl : TE} {sa : TA} {pos : Pos}
include hK
theorem pi_any (hl : PE X l tl) : PI X tg l (iAny K tl) := by
  subst hK
  refine ⟨fun pins s σ H R I h => ?_⟩
  refine thn (hl.run pins s σ H _ I h) fun v s1 ⟨x, H1, I1, r1, q1⟩ => ?_
  rcases q1 with ⟨a, e, ⟨⟨xs, hq⟩, q⟩ | ⟨⟨xs, hq⟩, q⟩⟩ | ⟨z, ex, q⟩
  · subst e
    cases r1
    obtain ⟨its, rv, p, hz⟩ := I1.list hq
    refine wpAny_pyIter_list p.isList ?_
    refine ⟨s1.heap.objs.size, [s1.heap.objs.size], _, _, H1, rfl, I1.kept (t' := s1.toks) fun b o e => Heap.get?_push_of_some _ e, turn_list a _, ⟨_, Heap.get?_push_size _ rfl, rfl, rfl⟩, fun b hb => ?_, q⟩
    have e : b = s1.heap.objs.size := by simpa using hb
    subst e
    exact I1.fpOk (Nat.le_refl _) (I1.hok.fresh (Nat.le_refl _))
  · subst e
    cases r1
    obtain ⟨its, rv, p, hz⟩ := I1.tuple hq
    refine wpAny_pyIter_tuple (show s1.heap.IsTuple a its.toArray from p) ?_
    refine ⟨s1.heap.objs.size, [s1.heap.objs.size], _, _, H1, rfl, I1.kept (t' := s1.toks) fun b o e => Heap.get?_push_of_some _ e, turn_tuple a _, ⟨_, Heap.get?_push_size _ rfl, rfl, rfl⟩, fun b hb => ?_, q⟩
    have e : b = s1.heap.objs.size := by simpa using hb
    subst e
    exact I1.fpOk (Nat.le_refl _) (I1.hok.fresh (Nat.le_refl _))
  · subst ex
    obtain ⟨t, rfl⟩ := r1
    cases ha : z.cps.all (· < 128)
    · exact wpAny_pyIter_wide ha (pi_one (tk := s1.toks) I1 _ (turn_str _ z t "str_iterator" (.inr rfl)) ⟨_, Heap.get?_push_size _ rfl, rfl, rfl⟩ q)
    · exact wpAny_pyIter_ascii ha (pi_one (tk := s1.toks) I1 _ (turn_str _ z t "str_ascii_iterator" (.inl rfl)) ⟨_, Heap.get?_push_size _ rfl, rfl, rfl⟩ q)
theorem qe_add (ha : PE X a ta) (hb : PE X b tb) : PE X (.BinOp a .Add b pos) (tOp (rAdd K) ta tb) := by subst hK; exact pe_op op_addA ha hb
theorem qe_ix (ha : PE X a ta) (hb : PE X b tb) (hs : PlainIx b := by exact fun _ _ => rfl) : PE X (.Subscript a b pos) (tOp (rIx K) ta tb) := by subst hK; exact pe_ix ix_seq ha hb hs
theorem qe_sl {lo hi : Option Expr} {t1 t2 : TO} {p2 : Pos} (he : PE X e te) (hl : PO X lo t1) (hu : PO X hi t2) : PE X (.Subscript e (.Slice lo hi none p2) pos) (tSl (rSlF K) te t1 t2) := by subst hK; exact pe_slice sl_any he hl hu
theorem qo_eq (hu : X.A.units + 64 < cLine) : OpR X (compareOp .Eq) (rEqD K) := by subst hK; exact op_eqD hu
theorem qo_ne (hu : X.A.units + 64 < cLine) : OpR X (compareOp .NotEq) (rNeD K) := by subst hK; exact op_neD hu
theorem qo_in : OpR X (compareOp .In) (rInA K) := by subst hK; exact op_inA
theorem qc_len : CallR X (.builtin "len") (rLenA K) := by subst hK; exact cr_lenA
theorem qc_all (hc : X.calm = true) : CallR X (.builtin "all") (rAll K) := by subst hK; exact cr_all hc
theorem qc_any (hc : X.calm = true) : CallR X (.builtin "any") (rAny K) := by subst hK; exact cr_any hc
theorem qc_tuple : CallR X (.type "tuple") (rTupleOf K) := by subst hK; exact cr_tupleOf
theorem qc_list : CallR X (.type "list") (rListOf K) := by subst hK; exact cr_listOf
theorem qc_isi : CallR X (.builtin "isinstance") (rIsi K) := by subst hK; exact call_isi
theorem qg_tup {es : List Expr} {k : Nat} {t : TGs} {n : Nat} (hc : X.calm = true) (h : PGs X es t) (hn : (assignEach es X.env).length = n := by rfl) (hst : (assignEach es X.env).findIdx? (·.1) = none := by rfl) : PG X (.Tuple es k pos) (gTup K n t) := by
  subst hK
  exact pg_tup hc h hn hst
theorem qi_zip {e2 : Expr} {p tpos : Pos} {elts : List Expr} {kk : Nat} (hg : Gl X "zip") (hm : X.mg "zip" = none) (ha : PA X [e, e2] sa)
    (hs : starEach [e, e2] X.env = (false, eval e X.env) :: starEach [e2] X.env := by rfl) (hpl : (backTo pos (starEach [e2] X.env)).any (·.1) = false := by rfl) :
    PI X (.Tuple elts kk tpos) (.Call (.Name "zip" p) [e, e2] [] pos) (RZ.iZipA K sa) := by
  subst hK
  exact RZ.pi_zipA hg hm ha hs hpl
theorem qi_enum {p tpos : Pos} {elts : List Expr} {kk : Nat} (hg : Gl X "enumerate") (hm : X.mg "enumerate" = none) (ha : PA X [e] sa) (hs : starEach [e] X.env = [(false, eval e X.env)] := by rfl) :
    PI X (.Tuple elts kk tpos) (.Call (.Name "enumerate" p) [e] [] pos) (iEnum K sa) := by
  subst hK
  exact pi_enum hg hm ha hs
end
section
variable {f : Fx} {L : List Addr} {σ : L2.St} {H : Hp} {ρ : Env}
theorem it_str {z : Str} : IsIt f L (Its z) H (z.cps.toList.map fun c => .str ⟨#[c]⟩) := by
  have hl : (z.cps.toList.map fun c => PyData.str ⟨#[c]⟩).length = z.cps.size := by rw [List.length_map, Array.length_toList]
  refine ⟨fun L' H' t _ => Nat.le_of_eq hl.symm, fun i L' H' hi t _ => by rw [hl] at hi; exact hi, fun i x L' H' v H'' hx t r' y => ?_⟩
  obtain ⟨rfl, c, hc, rfl⟩ := y
  rw [List.getElem?_map, Array.getElem?_toList, hc] at hx
  cases hx
  exact ⟨r'.self, .str _⟩
theorem si_any {K : PySem.W.Frag} {te : TE} {t : DE} (h : SE f te t) : SI f (iAny K te) (dItemsA t) := fun L σ H ρ Q R r q k =>
  h L σ H ρ _ _ r q fun v H1 x g d q => by
    cases d with
    | tup e c => exact .inl ⟨_, rfl, .inr ⟨⟨_, SqT.of e⟩, k _ H1 _ g (it_tup (r.mv g) e c) q⟩⟩
    | lst fa e c => exact .inl ⟨_, rfl, .inl ⟨⟨_, SqL.of e⟩, k _ H1 _ g (it_list (r.mv g) fa e c) q⟩⟩
    | str z => exact .inr ⟨z, rfl, k _ H1 _ g it_str q⟩
    | _ => exact q.elim
/-! zip of two lists, or of two tuples -/
def zipD (xs ys : List PyData) : List PyData := List.zipWith (fun x y => .tuple [x, y]) xs ys
def dZip (t : DA) : DI := fun ρ Q => t ρ fun zs => onTwo zs fun x y => byD x (t := fun xs => onTup y fun ys => Q (zipD xs ys)) (l := fun xs => onLst y fun ys => Q (zipD xs ys))
section
variable {f : Fx} {L : List Addr} {σ : L2.St} {H : Hp} {ρ : Env}
theorem zip_get {xs ys : List PyData} {i : Nat} {z : PyData} (h : (zipD xs ys)[i]? = some z) : ∃ x y, xs[i]? = some x ∧ ys[i]? = some y ∧ z = .tuple [x, y] := by
  unfold zipD at h
  rw [List.getElem?_zipWith] at h
  cases e1 : xs[i]? with
  | none => rw [e1] at h; cases h
  | some x =>
    cases e2 : ys[i]? with
    | none => rw [e1, e2] at h; cases h
    | some y =>
      rw [e1, e2] at h
      cases h
      exact ⟨x, y, rfl, rfl, rfl⟩
theorem zip_len (xs ys : List PyData) : (zipD xs ys).length = min xs.length ys.length := by unfold zipD; rw [List.length_zipWith]
theorem it_zipL {K : PySem.W.Frag} {a b : Addr} {vs us : List V} {xs ys : List PyData} (r : Rel f L σ H ρ) (fa : Fr f L a) (ea : H a = some (.lst vs)) (da : DdAll (Fr f L) H vs xs) (fb : Fr f L b) (eb : H b = some (.lst us)) (db : DdAll (Fr f L) H us ys) : IsIt f L (Itz K a b) H (zipD xs ys) := by
  have ata : ∀ {L' H'}, Tr f L H L' H' → H' a = some (.lst vs) := fun t => t.kp a _ ea (r.ok.off a fa.1) fa.2
  have atb : ∀ {L' H'}, Tr f L H L' H' → H' b = some (.lst us) := fun t => t.kp b _ eb (r.ok.off b fb.1) fb.2
  have la := da.length
  have lb := db.length
  refine ⟨fun L' H' t _ => ⟨vs, us, SqL.of (ata t), SqL.of (atb t), by rw [zip_len]; omega⟩, fun i L' H' hi t _ => ?_, fun i z L' H' v H'' hx t r' y => ?_⟩
  · rw [zip_len] at hi
    exact ⟨vs, us, vs[i]'(by omega), us[i]'(by omega), SqL.of (ata t), SqL.of (atb t), List.getElem?_eq_getElem _, List.getElem?_eq_getElem _⟩
  · obtain ⟨T, x1, y1, rfl, nT, rfl, f1, f2⟩ := y
    obtain ⟨x, y, hx1, hy1, rfl⟩ := zip_get hx
    obtain ⟨u, hu, du⟩ := dds_get da hx1
    obtain ⟨u2, hu2, du2⟩ := dds_get db hy1
    have e1 := f1 vs (SqL.of (ata t))
    have e2 := f2 us (SqL.of (atb t))
    rw [hu] at e1
    rw [hu2] at e2
    cases e1
    cases e2
    have g := r'.new (o := .tup [x1, y1]) nT
    exact ⟨g, .tup upd_same (.cons (r'.dd g (t.dd r du)) (.cons (r'.dd g (t.dd r du2)) .nil))⟩
theorem it_zipT {K : PySem.W.Frag} {a b : Addr} {vs us : List V} {xs ys : List PyData} (r : Rel f L σ H ρ) (ea : H a = some (.tup vs)) (da : DdAll (Fr f L) H vs xs) (eb : H b = some (.tup us)) (db : DdAll (Fr f L) H us ys) : IsIt f L (RZ.ItzT K a b) H (zipD xs ys) := by
  have at_ : ∀ {c : Addr} {ws : List V} {L' H'}, H c = some (.tup ws) → Tr f L H L' H' → H' c = some (.tup ws) := fun e t => t.kp _ _ e (Rel.tup_off r.deck e) fun m => by
    obtain ⟨ws, e2⟩ := (r.own _ m).2
    rw [e] at e2
    cases e2
  have la := da.length
  have lb := db.length
  refine ⟨fun L' H' t _ => ⟨vs, us, SqT.of (at_ ea t), SqT.of (at_ eb t), by rw [zip_len]; omega⟩, fun i L' H' hi t _ => ?_, fun i z L' H' v H'' hx t r' y => ?_⟩
  · rw [zip_len] at hi
    exact ⟨vs, us, vs[i]'(by omega), us[i]'(by omega), SqT.of (at_ ea t), SqT.of (at_ eb t), List.getElem?_eq_getElem _, List.getElem?_eq_getElem _⟩
  · obtain ⟨T, x1, y1, rfl, nT, rfl, f1, f2⟩ := y
    obtain ⟨x, y, hx1, hy1, rfl⟩ := zip_get hx
    obtain ⟨u, hu, du⟩ := dds_get da hx1
    obtain ⟨u2, hu2, du2⟩ := dds_get db hy1
    have e1 := f1 vs (SqT.of (at_ ea t))
    have e2 := f2 us (SqT.of (at_ eb t))
    rw [hu] at e1
    rw [hu2] at e2
    cases e1
    cases e2
    have g := r'.new (o := .tup [x1, y1]) nT
    exact ⟨g, .tup upd_same (.cons (r'.dd g (t.dd r du)) (.cons (r'.dd g (t.dd r du2)) .nil))⟩
theorem si_zip {K : PySem.W.Frag} {ta : TA} {t : DA} (h : SA f ta t) : SI f (RZ.iZipA K ta) (dZip t) := fun L σ H ρ Q R r q k =>
  h L σ H ρ _ _ r q fun vs H1 zs g d q => by
    have r1 := r.mv g
    cases d with
    | nil => exact q.elim
    | cons a b =>
      cases b with
      | nil => cases a <;> exact q.elim
      | cons b c =>
        cases c with
        | cons c c2 => cases a <;> cases b <;> exact q.elim
        | nil =>
          cases a with
          | tup e1 d1 =>
            cases b with
            | tup e2 d2 => exact ⟨_, _, _, _, rfl, .inr ⟨SqT.of e1, SqT.of e2, k _ H1 _ g (it_zipT r1 e1 d1 e2 d2) q⟩⟩
            | _ => exact q.elim
          | lst f1 e1 d1 =>
            cases b with
            | lst f2 e2 d2 => exact ⟨_, _, _, _, rfl, .inl ⟨SqL.of e1, SqL.of e2, k _ H1 _ g (it_zipL r1 f1 e1 d1 f2 e2 d2) q⟩⟩
            | _ => exact q.elim
          | _ => cases b <;> exact q.elim
/-! enumerate of a list -/
def enumD (n : Nat) : List PyData → List PyData
  | [] => []
  | x :: xs => .tuple [.int (n : Nat), x] :: enumD (n + 1) xs
theorem enum_len : ∀ (n : Nat) (xs : List PyData), (enumD n xs).length = xs.length
  | _, [] => rfl
  | n, x :: xs => by
    show (enumD (n + 1) xs).length + 1 = xs.length + 1
    rw [enum_len]
theorem enum_get : ∀ {n : Nat} {xs : List PyData} {i : Nat} {z : PyData}, (enumD n xs)[i]? = some z → ∃ x, xs[i]? = some x ∧ z = .tuple [.int ((n + i : Nat) : Nat), x]
  | _, [], _, _, h => by
    unfold enumD at h
    simp at h
  | n, x :: xs, 0, z, h => by
    cases h
    exact ⟨x, rfl, rfl⟩
  | n, x :: xs, i + 1, z, h => by
    obtain ⟨y, h1, h2⟩ := enum_get (n := n + 1) (xs := xs) (i := i) (by simpa [enumD] using h)
    refine ⟨y, by simpa using h1, ?_⟩
    rw [h2, show n + 1 + i = n + (i + 1) by omega]
def dEnum (t : DA) : DI := fun ρ Q => t ρ fun zs => onOne zs fun x => onLst x fun xs => Q (enumD 0 xs)
theorem si_enum {K : PySem.W.Frag} {ta : TA} {t : DA} (h : SA f ta t) : SI f (iEnum K ta) (dEnum t) := fun L σ H ρ Q R r q k =>
  h L σ H ρ _ _ r q fun vs H1 zs g d q => by
    have r1 := r.mv g
    cases d with
    | nil => exact q.elim
    | cons a b =>
      cases b with
      | cons b c => cases a <;> exact q.elim
      | nil =>
        cases a with
        | @lst a vs xs fa e d =>
          have at_ : ∀ {L' H'}, Tr f L H1 L' H' → H' a = some (.lst vs) := fun t => t.kp a _ e (r.ok.off a fa.1) fa.2
          have hl := d.length
          refine ⟨_, _, rfl, SqL.of e, k _ H1 _ g ⟨fun L' H' t _ => ⟨vs, SqL.of (at_ t), by rw [enum_len]; omega⟩, fun i L' H' hi t _ => ?_, fun i z L' H' v H'' hx t r' y => ?_⟩ q⟩
          · rw [enum_len] at hi
            exact ⟨vs, vs[i]'(by omega), SqL.of (at_ t), List.getElem?_eq_getElem _⟩
          · obtain ⟨T, x1, rfl, nT, rfl, f1⟩ := y
            obtain ⟨x, hx1, rfl⟩ := enum_get hx
            obtain ⟨u, hu, du⟩ := dds_get d hx1
            have e1 := f1 vs (SqL.of (at_ t))
            rw [hu] at e1
            cases e1
            rw [Nat.zero_add]
            have g := r'.new (o := .tup [.int (i : Nat), x1]) nT
            exact ⟨g, .tup upd_same (.cons (.int _) (.cons (r'.dd g (t.dd r1 du)) .nil))⟩
        | _ => exact q.elim
end
end
/-! ### several slots at once, some of them own lists -/
inductive SlsR (f : Fx) (L : List Addr) (H : Hp) (σ : L2.St) (ρ : Env) : List V → List Sl → Prop
  | nil : SlsR f L H σ ρ [] []
  | cons {v : V} {s : Sl} {vs : List V} {ss : List Sl} : SlR f L H s (some v) → (∀ ys, s = .own ys → Sep σ ρ v ∧ ∀ (k : Nat) w zs, vs[k]? = some w → ss[k]? = some (.own zs) → w ≠ v) → SlsR f L H σ ρ vs ss → SlsR f L H σ ρ (v :: vs) (s :: ss)
abbrev DAx := Env → (List Sl → Prop) → Prop
def NewO (H : Hp) (vs : List V) (ss : List Sl) : Prop := ∀ (k : Nat) w zs, vs[k]? = some w → ss[k]? = some (.own zs) → ∃ a, w = .ref a ∧ H a = none
def SAx (f : Fx) (ta : TA) (t : DAx) : Prop := ∀ (L : List Addr) (σ : L2.St) (H : Hp) (ρ : Env) (Q : List Sl → Prop) (R : List V → Hp → Prop), Rel f L σ H ρ → t ρ Q →
  (∀ L' vs H' ss, Go f H H' → (∀ a ∈ L, a ∈ L') → (∀ a ∈ L', a ∈ L ∨ H a = none) → Rel f L' σ H' ρ → SlsR f L' H' σ ρ vs ss → NewO H vs ss → Q ss → R vs H') → ta σ H R
def dxNil : DAx := fun _ Q => Q []
def dxD (t : DE) (u : DAx) : DAx := fun ρ Q => t ρ fun x => u ρ fun ss => Q (.d x :: ss)
def dxOwn (t : Env → (List PyData → Prop) → Prop) (u : DAx) : DAx := fun ρ Q => t ρ fun xs => u ρ fun ss => Q (.own xs :: ss)
def sets : List Nat → List Sl → Env → Env
  | i :: is, s :: ss, ρ => sets is ss (ρ.set i s)
  | _, _, ρ => ρ
def dAsgX (t : DAx) (is : List Nat) : DS := fun D ρ => t ρ fun ss => ss.length = is.length ∧ D.nx (sets is ss ρ)
section
variable {f : Fx} {L L' : List Addr} {σ : L2.St} {H H' : Hp} {ρ : Env} {ta : TE} {sa : TA} {da : DE} {ea : DA} {xa : DAx}
theorem sx_nil : SAx f tNil dxNil := fun L σ H ρ Q R r q k => k L [] H [] r.self (fun _ h => h) (fun _ h => .inl h) r .nil (fun k w zs h => by simp at h) q
theorem sx_d (h1 : SE f ta da) (h2 : SAx f sa xa) : SAx f (tCons ta sa) (dxD da xa) := fun L σ H ρ Q R r q k =>
  h1 L σ H ρ _ _ r q fun v H1 x g d q => h2 L σ H1 ρ _ _ (r.mv g) q fun L' vs H2 ss g2 s1 n1 r2 sl nw q => by
    have t : Tr f L H1 L' H2 := ⟨n1, fun a o e n _ => g2.kp a o e n⟩
    refine k L' _ H2 _ (g.trans g2) s1 (fun a h => (n1 a h).imp id g.back) r2 (.cons (s := .d x) ⟨v, rfl, t.dd (r.mv g) d⟩ (fun ys e => by cases e) sl) (fun j w zs e1 e2 => ?_) q
    cases j with
    | zero => cases e2
    | succ j =>
      obtain ⟨a, e, n⟩ := nw j w zs (by simpa using e1) (by simpa using e2)
      exact ⟨a, e, g.back n⟩
theorem sx_own {to : Env → (List PyData → Prop) → Prop} (h1 : SEo f ta to) (h2 : SAx f sa xa) : SAx f (tCons ta sa) (dxOwn to xa) := fun L σ H ρ Q R r q k =>
  h1 L σ H ρ _ _ r q fun u ws H1 xs g n eu d q => by
    have r1 := r.push g n eu
    refine h2 (u :: L) σ H1 ρ _ _ r1 q fun L' vs H2 ss g2 s1 n1 r2 sl nw q => ?_
    have t : Tr f (u :: L) H1 L' H2 := ⟨n1, fun a o e n _ => g2.kp a o e n⟩
    refine k L' _ H2 _ (g.trans g2) (fun a h => s1 a (List.mem_cons_of_mem _ h)) (fun a h => ?_) r2 (.cons (s := .own xs) ⟨u, ws, rfl, s1 u List.mem_cons_self, g2.kp _ _ eu (r1.own_off List.mem_cons_self), t.dds r1 d⟩ (fun ys _ => ⟨sep_new r n, fun j w zs e1 e2 => ?_⟩) sl) (fun j w zs e1 e2 => ?_) q
    · rcases n1 a h with h | h
      · rcases List.mem_cons.mp h with rfl | h
        · exact .inr n
        · exact .inl h
      · exact .inr (g.back h)
    · obtain ⟨a, rfl, na⟩ := nw j w zs e1 e2
      intro z
      cases z
      rw [eu] at na
      cases na
    · cases j with
      | zero =>
        cases e1
        exact ⟨u, rfl, n⟩
      | succ j =>
        obtain ⟨a, e, na⟩ := nw j w zs (by simpa using e1) (by simpa using e2)
        exact ⟨a, e, g.back na⟩
/-- the slots set, one after the other -/
def SGX (is : List Nat) (gs : TGs) : Prop := ∀ (f : Fx) (L : List Addr) (σ : L2.St) (H : Hp) (ρ : Env) (vs : List V) (ss : List Sl) (R : L2.St → Hp → Prop), Rel f L σ H ρ → SlsR f L H σ ρ vs ss → ss.length = is.length → (∀ σ', Rel f L σ' H (sets is ss ρ) → R σ' H) → gs vs σ H R
theorem sls_set {v : V} {s : Sl} {i : Nat} (hs : ∀ ys, s = .own ys → Sep σ ρ v) : ∀ {vs : List V} {ss : List Sl}, SlsR f L H σ ρ vs ss → (∀ ys, s = .own ys → ∀ (k : Nat) w zs, vs[k]? = some w → ss[k]? = some (.own zs) → w ≠ v) → SlsR f L H (σ.set i (some v)) (ρ.set i s) vs ss
  | _, _, .nil, _ => .nil
  | _, _, .cons (v := w) (s := u) a b c, h => by
    refine .cons a (fun ys e => ⟨fun j zs ej z => ?_, (b ys e).2⟩) (sls_set hs c fun ys e k w' zs e1 e2 => h ys e (k + 1) w' zs (by simpa using e1) (by simpa using e2))
    rw [List.getElem?_set] at ej z
    by_cases hij : i = j
    · rw [if_pos hij] at ej z
      split at ej
      · cases ej
        split at z
        · cases z
          exact h _ rfl 0 _ ys rfl (by rw [e]; rfl) rfl
        · cases z
      · cases ej
    · rw [if_neg hij] at ej z
      exact (b ys e).1 j zs ej z
theorem sgx_nil : SGX [] gNil := fun f L σ H ρ vs ss R r sl hl k => by
  cases sl with
  | nil => exact ⟨rfl, k σ r⟩
  | cons => cases hl
theorem sgx_cons (i : Nat) {is : List Nat} {gs : TGs} (h : SGX is gs) : SGX (i :: is) (gCons (gName i) gs) := fun f L σ H ρ vs ss R r sl hl k => by
  cases sl with
  | nil => cases hl
  | @cons v s vs ss a b c =>
    refine ⟨v, vs, rfl, h f L _ H _ vs ss R (r.set a fun ys e => (b ys e).1) (sls_set (fun ys e => (b ys e).1) c fun ys e => (b ys e).2) (by simpa using hl) k⟩
theorem sls_mv (r : Rel f L σ H ρ) (g : Go f H H') : ∀ {vs : List V} {ss : List Sl}, SlsR f L H σ ρ vs ss → SlsR f L H' σ ρ vs ss
  | _, _, .nil => .nil
  | _, _, .cons a b c => .cons (a.mv r.ok r.deck (fun _ h => r.own_off h) g) b (sls_mv r g c)
theorem sls_len : ∀ {vs : List V} {ss : List Sl}, SlsR f L H σ ρ vs ss → vs.length = ss.length
  | _, _, .nil => rfl
  | _, _, .cons a b c => by rw [List.length_cons, List.length_cons, sls_len c]
theorem ss_asgX {K : PySem.W.Frag} {n : Nat} {gs : TGs} {is : List Nat} (h : SAx f sa xa) (hg : SGX is gs) (hn : is.length = n := by rfl) (h1 : n ≤ 1000 := by decide) : SS f (tAsg (tTup sa) (gTup K n gs)) (dAsgX xa is) := fun L σ H ρ D E r q o =>
  h L σ H ρ _ _ r q fun L' vs H1 ss g s1 n1 r1 sl _ q => by
    have hl := sls_len sl
    have t1 : Tr f L H L' H1 := ⟨n1, fun a o e n _ => g.kp a o e n⟩
    refine ⟨by rw [hl, q.1, hn]; exact Nat.le_trans h1 (by decide), fun p np => ⟨p, vs, rfl, SqT.of upd_same, by rw [hl, q.1, hn], ?_⟩⟩
    have g2 := r1.new (o := .tup vs) np
    exact hg f L' σ _ ρ vs ss _ (r1.mv g2) (sls_mv r1 g2 sl) q.1 fun σ' r' => o.nx L' σ' _ _ (t1.trans r1.deck (Tr.of g2)) r' q.2
theorem ss_parX {i j : Nat} (h : SAx f sa xa) : SS f (tPar i j sa) (dAsgX xa [i, j]) := fun L σ H ρ D E r q o =>
  h L σ H ρ _ _ r q fun L' vs H1 ss g s1 n1 r1 sl _ q => by
    have t1 : Tr f L H L' H1 := ⟨n1, fun a o e n _ => g.kp a o e n⟩
    cases sl with
    | nil => cases q.1
    | @cons v s vs ss a b c =>
      have c2 := sls_set (i := i) (fun ys e => (b ys e).1) c fun ys e => (b ys e).2
      have r2 := r1.set (i := i) a fun ys e => (b ys e).1
      cases c2 with
      | nil => cases q.1
      | @cons w t vs ss a2 b2 c3 =>
        cases c3 with
        | cons => exact absurd q.1 (by simp)
        | nil => exact ⟨v, w, rfl, o.nx L' _ H1 _ t1 (r2.set (i := j) a2 fun ys e => (b2 ys e).1) q.2⟩
end
/-! ### further rules -/
section
variable {X : Cx} {K : PySem.W.Frag} (hK : X.K = K) {a b c e l tg : Expr} {ta tb tc te tl : TE} {sa : TA} {pos : Pos}
theorem pe_globS {x : Str} {z : Str} {pos : Pos} (hg : Gl X x) (h : ∃ t, X.mg x = some (.str z t)) (hd : (x == ("__debug__" : Str)) = false := by decide) : PE X (.Name x pos) (tC (.str z)) := by
  obtain ⟨t, h⟩ := h
  exact pe_glob hg h ⟨t, rfl⟩ hd
theorem pe_globI {x : Str} {z : Int} {pos : Pos} (hg : Gl X x) (h : ∃ t, X.mg x = some (.int z t)) (hd : (x == ("__debug__" : Str)) = false := by decide) : PE X (.Name x pos) (tC (.int z)) := by
  obtain ⟨t, h⟩ := h
  exact pe_glob hg h ⟨t, rfl⟩ hd
include hK
theorem qe_append {apos cpos : Pos} (ho : PE X a ta) (he : PA X [e] (tCons te tNil))
    (hbase : attributeBase a "append" X.env (eval a X.env) = eval a X.env := by rfl)
    (hfew : ((backTo cpos (starEach [e] X.env)).all (fun x => !x.1) && (backToKw cpos (keywordEach [] X.env)).all (fun x => x.1.isSome) && decide ([e].length + ([] : List Keyword).length + (if ([] : List Keyword).isEmpty then 0 else 1) < 30)) = true := by rfl)
    (hline : (apos.endLine == cpos.line) = true := by rfl) (hs : starEach [e] X.env = (false, eval e X.env) :: starEach [] X.env := by rfl) (hplain : (backTo cpos (starEach [] X.env)).any (·.1) = false := by rfl) :
    PE X (.Call (.Attribute a "append" apos) [e] [] cpos) (tBM K "list" rAppend ta (tCons te tNil)) := by
  subst hK
  exact pe_bm PySem.F.plainAttrs_list PySem.F.slot_list_append PySem.F.type_list_append mt_append ho he hbase hfew hline hs hplain
theorem qe_extend {apos cpos : Pos} (ho : PE X a ta) (he : PA X [e] (tCons te tNil))
    (hbase : attributeBase a "extend" X.env (eval a X.env) = eval a X.env := by rfl)
    (hfew : ((backTo cpos (starEach [e] X.env)).all (fun x => !x.1) && (backToKw cpos (keywordEach [] X.env)).all (fun x => x.1.isSome) && decide ([e].length + ([] : List Keyword).length + (if ([] : List Keyword).isEmpty then 0 else 1) < 30)) = true := by rfl)
    (hline : (apos.endLine == cpos.line) = true := by rfl) (hs : starEach [e] X.env = (false, eval e X.env) :: starEach [] X.env := by rfl) (hplain : (backTo cpos (starEach [] X.env)).any (·.1) = false := by rfl) :
    PE X (.Call (.Attribute a "extend" apos) [e] [] cpos) (tBM K "list" rExtend ta (tCons te tNil)) := by
  subst hK
  exact pe_bm PySem.F.plainAttrs_list PySem.F.slot_list_extend PySem.F.type_list_extend mt_extend ho he hbase hfew hline hs hplain
end
section
variable {f : Fx} {ta : TE} {da : DE}
theorem s2_isBl : S2 f rIsB (fun x y Q => onBool x fun a => onBool y fun b => Q (.bool (decide (a = b)))) := fun L σ H ρ v u x y Q R r dx dy q k => by
  replace q := inv_bool q
  obtain ⟨a, rfl, q⟩ := q
  replace q := inv_bool q
  obtain ⟨b, rfl, q⟩ := q
  cases dx
  cases dy
  exact ⟨a, b, rfl, rfl, k _ H _ r.self (.bl _) q⟩
theorem s2_notBl : S2 f rNotB (fun x y Q => onBool x fun a => onBool y fun b => Q (.bool (!decide (a = b)))) := fun L σ H ρ v u x y Q R r dx dy q k => by
  replace q := inv_bool q
  obtain ⟨a, rfl, q⟩ := q
  replace q := inv_bool q
  obtain ⟨b, rfl, q⟩ := q
  cases dx
  cases dy
  exact ⟨a, b, rfl, rfl, k _ H _ r.self (.bl _) q⟩
theorem s2_pow : S2 f (rI CPow fun i j => .int (i ^ j.toNat)) (rdI CPow fun i j => .int (i ^ j.toNat)) := s2_I fun _ _ _ _ => .int _
def dRev (t : DE) : DE := fun ρ Q => t ρ fun x => onTup x fun xs => Q (.tuple xs.reverse)
theorem dds_rev {F : Addr → Prop} {H : Hp} : ∀ {vs : List V} {xs : List PyData}, DdAll F H vs xs → DdAll F H vs.reverse xs.reverse
  | _, _, .nil => .nil
  | _, _, .cons a b => by
    rw [List.reverse_cons, List.reverse_cons]
    exact dds_app (dds_rev b) (.cons a .nil)
theorem se_rev {K : PySem.W.Frag} (h : SE f ta da) : SE f (tRevT K ta) (dRev da) := fun L σ H ρ Q R r q k =>
  h L σ H ρ _ _ r q fun v H1 x g d q => by
    replace q := inv_tup q
    obtain ⟨xs, rfl, q⟩ := q
    cases d with
    | tup e c => exact ⟨_, _, rfl, SqT.of e, fun p np => k _ _ _ (g.new np) (.tup upd_same ((r.mv g).dds ((r.mv g).new np) (dds_rev c))) q⟩
theorem qe_rev {X : Cx} {K : PySem.W.Frag} (hK : X.K = K) {e : Expr} {te : TE} {k : Nat} {p1 p2 p3 pos : Pos} (he : PE X e te) : PE X (.Subscript e (.Slice none none (some (.UnaryOp .USub (.Constant (.int 1) k p1) p2)) p3) pos) (tRevT K te) := by
  subst hK
  exact pe_revT he
theorem seo_list {K : PySem.W.Frag} {sa : TA} {ea : DA} (h : SA f sa ea) : SEo f (tCB (rListOf K) sa) (fun ρ Q => ea ρ fun xs => onOne xs fun x => byD x (t := Q) (l := Q)) := fun L σ H ρ Q R r q k =>
  h L σ H ρ _ _ r q fun vs H1 xs g d q => by
    replace q := inv_one q
    obtain ⟨x, rfl, q⟩ := q
    cases d with
    | cons a b =>
      cases b
      have r1 := r.mv g
      cases a with
      | tup e c => exact ⟨_, _, rfl, .inr (SqT.of e), fun p np => k p _ _ _ (g.new np) (g.back np) upd_same (dds_new r1 np c) q⟩
      | lst g2 e c => exact ⟨_, _, rfl, .inl (SqL.of e), fun p np => k p _ _ _ (g.new np) (g.back np) upd_same (dds_new r1 np c) q⟩
      | _ => exact q.elim
end
end Ey
/-! ### to read them -/
namespace Ey
open PySem PySem.Spec PyProof.Rows L2
theorem atI_nn {α : Type} {xs : List α} (n : Nat) : atI xs (n : Int) = xs[n]? := by
  unfold atI ixN
  rw [if_pos (Int.natCast_nonneg n)]
  by_cases h : (n : Int) < xs.length
  · rw [if_pos h]
    rfl
  · rw [if_neg h]
    exact (List.getElem?_eq_none (by omega)).symm
theorem atI_0 {α : Type} {xs : List α} : atI xs 0 = xs[0]? := atI_nn 0
theorem atI_1 {α : Type} {xs : List α} : atI xs 1 = xs[1]? := atI_nn 1
theorem atI_2 {α : Type} {xs : List α} : atI xs 2 = xs[2]? := atI_nn 2
theorem atI_3 {α : Type} {xs : List α} : atI xs 3 = xs[3]? := atI_nn 3
theorem ex_some {α : Type} {a : α} {p : α → Prop} : (∃ x, some a = some x ∧ p x) ↔ p a := by simp
theorem wm {i j : Int} {a b : Nat} (ha : i.natAbs < 2 ^ a) (hb : j.natAbs < 2 ^ b) (h0 : 0 < a := by decide) (h1 : 0 < b := by decide) (h : a + b ≤ 1000000 := by decide) : CMulW i j := wide_mul ha hb h0 h1 h
end Ey
/-! len of a set of tuples -/
namespace Ey
open PySem PySem.Spec PyProof.Rows L2 TS
section
variable {X : Cx}
def rLenSetT (P : Program) (w : World) : List V → Hp → VK → Prop := fun xs H Q => ∃ (a : Addr) (L : List (Addr × List Int)), xs = [.ref a] ∧ H a = some (SetTO P w a L) ∧ ((L.map (·.2)).Nodup → Q (.int (L.length : Nat)) H)
theorem call_lenSetT : CallR X (.builtin "len") (rLenSetT X.prog X.w) := by
  intro pins s σ H xs us Q I r h
  obtain ⟨a, L, rfl, ea, q⟩ := h
  rw [Vals.ref1 r]
  have x : ObjOk X.prog X.w H s.heap a (.ext fun h => SetT0 X.prog X.w h a L) := I.hok a _ ea
  obtain ⟨es, ep, t, ⟨o, ho, hex, hd⟩, rows, tab, nd, _, _, room, few⟩ := SetT0.ex x.1
  have hl : es.size = L.length := by
    have h := congrArg List.length rows
    unfold rowsOf at h
    rw [Array.length_toList, List.length_map] at h
    exact h
  have fit : t.fits es.size = true := by
    unfold SetTable.fits SetTable.fill
    rw [tab.dm, tab.sz, List.length_map, hl]
    simp
    omega
  refine PySem.call_len_set ho hex hd fit (by rw [hl]; omega) ⟨.int (L.length : Nat), H, I.tok _, ⟨_, by rw [hl]⟩, q nd⟩
end
end Ey
/-! ### own lists read; sets counted -/
namespace Ey
open PySem PySem.Spec PyProof.Rows L2 TS
/-- what never raises here -/
theorem passF {X : Cx} : Passes (L2.CX X.prog X.w) X (fun _ _ _ => False) := fun _ _ _ _ _ _ _ ⟨_, _, _, _, _, _, _, _, _, _, _, _, h⟩ => h.elim
mutual
def plainD : PyData → Bool
  | .list _ => false
  | .dict _ => false
  | .tuple xs => plainAll xs
  | _ => true
def plainAll : List PyData → Bool
  | [] => true
  | x :: xs => plainD x && plainAll xs
end
mutual
theorem Dd.plain {F G : Addr → Prop} {H : Hp} : ∀ {v : V} {d : PyData}, Dd F H v d → plainD d = true → Dd G H v d
  | _, _, .non, _ => .non
  | _, _, .bl b, _ => .bl b
  | _, _, .int i, _ => .int i
  | _, _, .str x, _ => .str x
  | _, _, .lst f e r, h => by unfold plainD at h; cases h
  | _, _, .tup e r, h => .tup e (DdAll.plain r (by unfold plainD at h; exact h))
  | _, _, .dic f e r, h => by unfold plainD at h; cases h
theorem DdAll.plain {F G : Addr → Prop} {H : Hp} : ∀ {vs : List V} {ds : List PyData}, DdAll F H vs ds → plainAll ds = true → DdAll G H vs ds
  | _, _, .nil, _ => .nil
  | _, _, .cons a b, h => by
    unfold plainAll at h
    rw [Bool.and_eq_true] at h
    exact .cons (Dd.plain a h.1) (DdAll.plain b h.2)
end
def dEDem (i : Nat) (t : DE) : DE := fun ρ Q => onOwn ρ[i]? fun xs => t (ρ.set i (.d (.list xs))) fun x => plainD x = true ∧ Q x
def dTDem (i : Nat) (t : DT) : DT := fun ρ Q => onOwn ρ[i]? fun xs => t (ρ.set i (.d (.list xs))) Q
section
variable {f : Fx} {ta : TE} {da : DE} {tA : TT} {dA : DT}
theorem se_dem {i : Nat} (h : SE f ta da) : SE f ta (dEDem i da) := fun L σ H ρ Q R r q k => by
  replace q := inv_own q
  obtain ⟨xs, e, q⟩ := q
  obtain ⟨L', t', r'⟩ := r.dem1 e
  exact h L' σ H _ _ _ r' q fun v H' x g d q => k v H' x g (d.plain q.1) q.2
theorem st_dem {i : Nat} (h : ST f tA dA) : ST f tA (dTDem i dA) := fun L σ H ρ Q R r q k => by
  replace q := inv_own q
  obtain ⟨xs, e, q⟩ := q
  obtain ⟨L', t', r'⟩ := r.dem1 e
  exact h L' σ H _ _ _ r' q k
end
/-! how many are there -/
theorem nodup_le {α : Type} : ∀ {A B : List α}, A.Nodup → (∀ x ∈ A, x ∈ B) → A.length ≤ B.length
  | [], _, _, _ => Nat.zero_le _
  | a :: A, B, n, s => by
    obtain ⟨h1, h2⟩ := List.nodup_cons.mp n
    obtain ⟨B1, B2, rfl⟩ := List.append_of_mem (s a List.mem_cons_self)
    have := nodup_le (A := A) (B := B1 ++ B2) h2 fun x hx => by
      have := s x (List.mem_cons_of_mem _ hx)
      rw [List.mem_append, List.mem_cons] at this
      rw [List.mem_append]
      rcases this with h | rfl | h
      · exact .inl h
      · exact absurd hx h1
      · exact .inr h
    rw [List.length_append] at this
    rw [List.length_append, List.length_cons, List.length_cons]
    omega
theorem nodup_of {α : Type} : ∀ {A B : List α}, A.Nodup → (∀ x ∈ A, x ∈ B) → B.length ≤ A.length → B.Nodup
  | A, [], _, _, _ => List.nodup_nil
  | A, b :: B, n, s, l => by
    have key : b ∈ A := by
      refine Classical.byContradiction fun h => ?_
      have := nodup_le (A := A) (B := B) n fun x hx => by
        rcases List.mem_cons.mp (s x hx) with rfl | h'
        · exact absurd hx h
        · exact h'
      rw [List.length_cons] at l
      omega
    obtain ⟨A1, A2, rfl⟩ := List.append_of_mem key
    have n' : (A1 ++ A2).Nodup := (List.nodup_cons.mp (List.perm_middle.nodup_iff.mp n)).2
    have nb : b ∉ A1 ++ A2 := (List.nodup_cons.mp (List.perm_middle.nodup_iff.mp n)).1
    have s' : ∀ x ∈ A1 ++ A2, x ∈ B := fun x hx => by
      rcases List.mem_cons.mp (s x (by
        rw [List.mem_append] at hx
        rw [List.mem_append, List.mem_cons]
        rcases hx with h | h
        · exact .inl h
        · exact .inr (.inr h))) with rfl | h'
      · exact absurd hx nb
      · exact h'
    have l' : B.length ≤ (A1 ++ A2).length := by
      rw [List.length_append, List.length_cons] at l
      rw [List.length_cons] at l
      rw [List.length_append]
      omega
    refine List.nodup_cons.mpr ⟨fun hb => ?_, nodup_of n' s' l'⟩
    have e : B.length = (A1 ++ A2).length := Nat.le_antisymm l' (nodup_le n' s')
    obtain ⟨B1, B2, rfl⟩ := List.append_of_mem hb
    have := nodup_le (A := A1 ++ A2) (B := B1 ++ B2) n' fun x hx => by
      have := s' x hx
      rw [List.mem_append, List.mem_cons] at this
      rw [List.mem_append]
      rcases this with h | rfl | h
      · exact .inl h
      · exact absurd hx nb
      · exact .inr h
    rw [List.length_append (as := B1), List.length_cons] at e
    rw [List.length_append (as := B1)] at this
    omega
def trip' (l : List Int) : PyData := .tuple (l.map .int)
def dLenSet (t : DE) : DE := fun ρ Q => t ρ fun x => ∃ ks : List (List Int), x = .list (ks.map trip') ∧ ks.length < 64 ∧ ∀ n : Nat, n ≤ ks.length → (n = ks.length → ks.Nodup) → (ks.Nodup → n = ks.length) → Q (.int (n : Nat))
theorem tups_of {F : Addr → Prop} {H : Hp} {K : PySem.W.Frag} : ∀ {vs : List V} {ks : List (List Int)}, DdAll F H vs (ks.map trip') → ∃ ps : List (Addr × List Int), vs = ps.map (fun p => V.ref p.1) ∧ ps.map (·.2) = ks ∧ ∀ p ∈ ps, SqT K H p.1 (p.2.map V.int)
  | _, [], h => by
    cases h
    exact ⟨[], rfl, rfl, fun p hp => by cases hp⟩
  | _, k :: ks, h => by
    cases h with
    | cons a b =>
      obtain ⟨ps, rfl, e, hp⟩ := tups_of (K := K) b
      have key : ∀ {v : V}, Dd F H v (trip' k) → ∃ p, v = V.ref p ∧ H p = some (.tup (k.map V.int)) := by
        intro v a
        cases a with
        | tup e c =>
          have hint : ∀ {vs : List V} {ns : List Int}, DdAll F H vs (ns.map PyData.int) → vs = ns.map V.int := by
            intro vs ns
            induction ns generalizing vs with
            | nil => intro h; cases h; rfl
            | cons n ns ih =>
              intro h
              cases h with
              | cons a b =>
                cases a
                rw [ih b] <;> rfl
          rw [hint c] at e
          exact ⟨_, rfl, e⟩
      obtain ⟨p, rfl, ep⟩ := key a
      refine ⟨(p, k) :: ps, rfl, by rw [List.map_cons, e], fun q hq => ?_⟩
      rcases List.mem_cons.mp hq with rfl | hq
      · exact SqT.of ep
      · exact hp q hq
theorem se_lenSetT {f : Fx} {P : Program} {w : World} {K : PySem.W.Frag} {te : TE} {t : DE} (h : SE f te t) : SE f (tCB (rLenSetT P w) (tCons (tCB (rSetOfT K P w) (tCons te tNil)) tNil)) (dLenSet t) := fun L σ H ρ Q R r q k =>
  h L σ H ρ _ _ r q fun v H1 x g d q => by
    obtain ⟨ks, rfl, hl, q⟩ := q
    cases d with
    | lst fa e c =>
      obtain ⟨ps, rfl, e2, hp⟩ := tups_of (K := K) c
      have hps : ps.length = ks.length := by rw [← e2, List.length_map]
      refine ⟨_, ps, rfl, SqL.of e, hp, by omega, fun a L2 na sub all => ⟨a, L2, rfl, upd_same, fun nd => ?_⟩⟩
      have s1 : ∀ z ∈ L2.map (·.2), z ∈ ks := fun z hz => by
        obtain ⟨p, hp2, rfl⟩ := List.mem_map.mp hz
        rw [← e2]
        exact List.mem_map_of_mem (sub p hp2)
      have s2 : ∀ z ∈ ks, z ∈ L2.map (·.2) := fun z hz => by
        rw [← e2] at hz
        obtain ⟨p, hp2, rfl⟩ := List.mem_map.mp hz
        exact all p hp2
      have l1 := nodup_le nd s1
      rw [List.length_map] at l1
      exact k _ _ _ (g.new na) (.int _) (q L2.length l1 (fun e => nodup_of nd s1 (by rw [List.length_map]; omega)) fun nk => by
        have := nodup_le nk s2
        rw [List.length_map] at this
        omega)
/-! repr(a) != repr(b), the two alike -/
theorem str_same (z : Str) : (!decide (V.str z = V.str z)) = false := by rw [decide_eq_true rfl] <;> rfl
def dReprNe (t u : DE) : DE := fun ρ Q => t ρ fun x => Rz 7000 50 x ∧ u ρ fun y => y = x ∧ Q (.bool false)
theorem se_reprNe {f : Fx} {ta tb : TE} {da db : DE} (h1 : SE f ta da) (h2 : SE f tb db) : SE f (tOp rNe (tCB rRepr (tCons ta tNil)) (tCB rRepr (tCons tb tNil))) (dReprNe da db) := fun L σ H ρ Q R r q k =>
  h1 L σ H ρ _ _ r q fun v H1 x g dx q => by
    obtain ⟨z, q1⟩ := q
    refine ⟨v, Fr f L, x, rfl, dx, z, h2 L σ H1 ρ _ _ (r.mv g) q1 fun u H2 y g2 dy q2 => ?_⟩
    obtain ⟨rfl, q3⟩ := q2
    refine ⟨u, Fr f L, y, rfl, dy, z, rfl, ?_⟩
    rw [str_same]
    exact k _ H2 _ (g.trans g2) (.bl _) q3
/-- repr(a) != text, text that of it -/
def dReprNeV (t u : DE) : DE := fun ρ Q => t ρ fun x => Rz 7000 50 x ∧ u ρ fun y => y = .str x.shown ∧ Q (.bool false)
theorem se_reprNeV {f : Fx} {ta tb : TE} {da db : DE} (h1 : SE f ta da) (h2 : SE f tb db) : SE f (tOp rNe (tCB rRepr (tCons ta tNil)) tb) (dReprNeV da db) := fun L σ H ρ Q R r q k =>
  h1 L σ H ρ _ _ r q fun v H1 x g dx q => by
    obtain ⟨z, q1⟩ := q
    refine ⟨v, Fr f L, x, rfl, dx, z, h2 L σ H1 ρ _ _ (r.mv g) q1 fun u H2 y g2 dy q2 => ?_⟩
    obtain ⟨rfl, q3⟩ := q2
    cases dy
    refine ⟨rfl, ?_⟩
    rw [str_same]
    exact k _ H2 _ (g.trans g2) (.bl _) q3
end Ey
/-! ### how many different keys a comprehension makes: len({e for x in xs if ..}), integers and strings -/
namespace Ey
open PySem PySem.Spec PyProof.Rows L2 PpSet
abbrev Ky := L2.Key
def hasU (A : List Ky) (k : Ky) : Bool := A.any fun j => decide (j = k)
theorem hasU_iff {A : List Ky} {k : Ky} : hasU A k = true ↔ k ∈ A := by
  unfold hasU
  rw [List.any_eq_true]
  constructor
  · rintro ⟨j, h, e⟩
    rw [← of_decide_eq_true e]
    exact h
  · exact fun h => ⟨k, h, decide_eq_true rfl⟩
def addU (A : List Ky) (k : Ky) : List Ky := if hasU A k = true then A else A ++ [k]
def SetU (P : Program) (w : World) (a : Addr) (A : List Ky) : HO := SetK P w a (hasU A) A.length
theorem setU_add {P : Program} {w : World} {a : Addr} {A : List Ky} {k : Ky} :
    SetK P w a (fun j => hasU A j || decide (j = k)) (if hasU A k = true then A.length else A.length + 1) = SetU P w a (addU A k) := by
  unfold SetU addU
  cases h : hasU A k with
  | true =>
    rw [if_pos rfl, if_pos rfl]
    congr 1
    funext j
    by_cases e : j = k
    · rw [e, h, Bool.true_or]
    · rw [decide_eq_false e, Bool.or_false]
  | false =>
    rw [if_neg (by decide), if_neg (by decide), List.length_append]
    congr 1
    funext j
    unfold hasU
    rw [List.any_append]
    congr 1
    simp [eq_comm]
section
variable {X : Cx} {pins : List (Addr × Obj)} {σ : L2.St} {H : Hp} {s : Shared}
theorem addU_ok {E : Value → Shared → Prop} {D : Addr} {A : List Ky} {k : Ky} {u : Value} {Q : Value → Shared → Prop} (I : Inv X pins σ H s) (eD : H D = some (SetU X.prog X.w D A)) (few : A.length + 1 < scanBound) (ru : RelV (kV k) u)
    (q : ∀ z, Inv X pins σ (upd H D (SetU X.prog X.w D (addU A k))) z → Q .none z) : wpAny (model X.prog X.w) X.A (call (.builtin "set.add") [.ref D, u]) Q E s := by
  refine call_set_add (kV_is ru) (key_scan ru) (setK_get I eD) few fun g same r => q _ ?_
  rw [← setU_add]
  have there : ∃ o, g.get? D = some o := by
    obtain ⟨o, _, _, _, go, _⟩ := id r
    exact ⟨o, go⟩
  exact I.write (e := D) (t' := s.toks + 1) (by rw [eD]; trivial) (.inl rfl) (fun b o nb eb => (same.2 b nb).trans eb) there (setK_new r)
def tScU (P : Program) (w : World) (wi : TI) (g : TG) (tt : TT) (te : TE) (ws : List Nat) : TE := fun σ H R =>
  wi σ H fun J H1 => ∀ D, H1 D = none → ∃ W : Nat → Nat → Hp → Prop, (∃ m, W 0 m (upd H1 D (SetU P w D []))) ∧
    ∀ i m H2, W i m H2 → (J.stop i H2 ∧ R (.ref D) H2) ∨ (J.go i H2 ∧ ∃ Z : Hp → Prop, (∀ H3, Z H3 → ∃ m3, m3 < m ∧ W (i + 1) m3 H3) ∧
      ∀ x H3, J.yld i H2 x H3 → g x (wipe σ ws) H3 fun σ4 H4 => wipe σ4 ws = wipe σ ws ∧
        tt σ4 H4 fun b H5 => if b = true then te σ4 H5 fun y H6 => ∃ (k : Ky) (A : List Ky), y = kV k ∧ H6 D = some (SetU P w D A) ∧ A.length + 1 < scanBound ∧ Z (upd H6 D (SetU P w D (addU A k))) else Z H5)
/-- what stands in a block: for each place where it may be made -/
def Blk (X : Cx) (scope : Scope) (p : Cx → Prop) : Prop := ∀ (s : Shared) (H : Hp) (C : Addr) (cs : List (PySem.Str × Addr)) (fs : List Addr), p (X.blk s H scope (compEnvC scope cs C X.env) fs)
theorem pe_scU {el tg it : Expr} {ifs : List Expr} {scope : Scope} {own : List (PySem.Str × Nat)} {pos : Pos} {wi : TI} {g : TG} {tt : TT} {te : TE} (calm : X.calm = true) (nd : X.N.Nodup) (pi : PI X tg it wi) (ok : BlkOk X.N X.env.scope scope own)
    (pg : Blk X scope fun Y => PG Y tg g) (pt : Blk X scope fun Y => PTs Y ifs tt) (pe : Blk X scope fun Y => PE Y el te) (fold : ∀ x, foldedSetIterable it X.env x = pure x := by intro _; rfl) :
    PE X (.SetComp el [⟨tg, it, ifs, 0⟩] scope pos) (tScU X.prog X.w wi g tt te (own.map (·.2))) := by
  constructor
  intro pins s σ H Q I h
  rw [eval_SetComp]
  have cells : ∀ y ∈ scope.names, y.2 = .free → ∃ c, X.env.cells.lookup y.1 = some c := by
    intro y hy e
    exact (ok.free y hy e).elim (fun k => I.ok.has _ (.inl k)) fun k => I.ok.has _ (.inr k)
  refine wpAny_comprehension_free (use := none) rfl fold (closure_ok cells) ok.kind (fun y hy e => by rw [ok.uniq y hy, e]) (thn (pi.run pins s σ H _ I h) ?_)
  intro xv sa ha
  refine thn ha ?_
  intro iv sb hb
  obtain ⟨a, fs, rows, J, Hb, rfl, Ib, T, st0, free, q⟩ := hb
  refine newSet_ok (w := X.w) (newEnv_comp ?_)
  generalize eD : sb.heap.objs.size = D
  have nD : Hb D = none := Ib.hok.fresh (Nat.le_of_eq eD)
  obtain ⟨W, ⟨m0, w0⟩, step⟩ := q D nD
  generalize ec : ({ sb with heap := sb.heap.push { cls := .type "set", dict := none, data := .set #[] 0 (.fresh 0 0 (!X.w.params.followText "set-order")) } } : Shared) = sc
  have hc : sc.heap = sb.heap.push { cls := .type "set", dict := none, data := .set #[] 0 (.fresh 0 0 (!X.w.params.followText "set-order")) } := by subst ec; rfl
  have z0 : sc.heap.SetOf (mixKind X.prog X.w) D (fun _ => false) 0 := by
    rw [hc, ← eD]
    refine ⟨_, #[], 0, _, Heap.get?_push_size _ rfl, ⟨rfl, rfl, rfl⟩, rfl, ?_, by simp, by decide, by rfl, rfl⟩
    intro e he
    simp at he
  have Ic : Inv X pins σ (upd Hb D (SetU X.prog X.w D [])) sc := by
    have z : SetU X.prog X.w D [] = SetK X.prog X.w D (fun _ => false) 0 := rfl
    rw [z]
    subst ec
    exact Ib.laid (t' := sb.toks) (fun b o e => Heap.get?_push_of_some _ e) (Nat.le_of_eq eD) (setK_new z0)
  have below : ∀ b ∈ fs, b < sb.heap.objs.size := by
    intro b hb
    obtain ⟨o, e, _⟩ := T.obj _ _ st0 b hb
    exact Heap.lt_size e
  have fc : ∀ b ∈ fs, FpOk X pins (upd Hb D (SetU X.prog X.w D [])) b ∧ b < sc.heap.objs.size := by
    intro b hb
    have lt := below b hb
    refine ⟨⟨?_, (free b hb).2⟩, ?_⟩
    · rw [upd_ne (by rw [← eD]; exact Nat.ne_of_lt lt)]
      exact (free b hb).1
    · rw [hc, Heap.size_push]
      exact Nat.lt_succ_of_lt lt
  have stc : rows 0 sc.heap := T.keep _ _ _ st0 (by
    intro b _ o e
    rw [hc]
    exact Heap.get?_push_of_some _ e)
  have Id := block_start Ic ok nd fc
  -- the parts, at this block
  generalize eH : upd Hb D (SetU X.prog X.w D []) = Hc at Ic Id w0 fc
  have g1 := pg sc Hc sc.heap.objs.size (cellsFrom (sc.heap.objs.size + 1) scope.names (cloFrom X.env.cells scope.names [])) fs
  have t1 := pt sc Hc sc.heap.objs.size (cellsFrom (sc.heap.objs.size + 1) scope.names (cloFrom X.env.cells scope.names [])) fs
  have e1 := pe sc Hc sc.heap.objs.size (cellsFrom (sc.heap.objs.size + 1) scope.names (cloFrom X.env.cells scope.names [])) fs
  have nf : ∀ b ∈ fs, Hc b = none := fun b hb => (fc b hb).1.1
  show codeAny _ _ (.compStart (.SetComp el [⟨tg, it, ifs, 0⟩] scope pos) 0 (.ref a) (.ref D) (compEnvC scope (cellsFrom (sc.heap.objs.size + 1) scope.names (cloFrom X.env.cells scope.names [])) sc.heap.objs.size X.env)) (compPost (model X.prog X.w) X.A X.xe none (EP X pins σ Q) (.ref D) sc.heap.objs.size) { sc with heap := pushCells (sc.heap.push { cls := .type "dict", data := .dict #[] }) scope.names }
  generalize ee : compEnvC scope (cellsFrom (sc.heap.objs.size + 1) scope.names (cloFrom X.env.cells scope.names [])) sc.heap.objs.size X.env = ce at Id g1 t1 e1 ⊢
  have place : ce.locals = sc.heap.objs.size := by subst ee; rfl
  generalize ed : ({ sc with heap := pushCells (sc.heap.push { cls := .type "dict", data := .dict #[] }) scope.names } : Shared) = sd at Id ⊢
  have std : rows 0 sd.heap := T.keep _ _ _ stc (by
    intro b _ o e
    subst ed
    exact pushCells_keeps _ _ _ _ (Heap.get?_push_of_some _ e))
  have stays : ∀ {σ' : L2.St} {H' : Hp} {s' : Shared}, Inv (X.blk sc Hc scope ce fs) [] σ' H' s' → (∀ b ∈ fs, H' b = none) → ∀ b ∈ fs, FpOk (X.blk sc Hc scope ce fs) [] H' b := by
    intro σ' H' s' I' n b hb
    exact ⟨n b hb, (I'.ok.exf b hb).1, I'.ok.exfs b hb, .inl hb, fun x c e => (I'.ok.exf b hb).2 x c e, fun p hp => absurd (show p ∈ ([] : List (Addr × Obj)) ++ [] from hp) (by simp)⟩
  have loop : codeAny (model X.prog X.w) X.A (.compLoop (.SetComp el [⟨tg, it, ifs, 0⟩] scope pos) 0 (.ref a) (.ref D) ce) (compPost (model X.prog X.w) X.A X.xe none (EP X pins σ Q) (.ref D) sc.heap.objs.size) sd := by
    refine compLoopS_any (fun n s' => ∃ i H', Inv (X.blk sc Hc scope ce fs) [] (wipe σ (own.map (·.2))) H' s' ∧ rows i s'.heap ∧ (∀ b ∈ fs, H' b = none) ∧ W i n H') ?_ m0 ⟨0, Hc, Id, std, nf, w0⟩
    intro n se ⟨i, He, Ie, ste, ne, we⟩
    rcases step i n He we with ⟨stop, fin⟩ | ⟨go, Z, less, turn⟩
    · refine thnF (T.done (X.blk sc Hc scope ce fs) rfl rfl rfl calm i [] se _ He (fun _ _ => False) Ie (stays Ie ne) ste stop) ?_
      rintro r sf ⟨rfl, If⟩
      have Ig : Inv X pins σ He sf := Ic.call' (ch := fs) If.os If.base If.hok If.bare (by
        intro b hb
        have z := (fc b hb).1.2
        exact ⟨z.2.2.1, z.1, z.2.2.2.1, z.2.2.2.2⟩)
      have nC : He sc.heap.objs.size = none := by
        rw [← place]
        exact If.free
      obtain ⟨m, hn, _⟩ := If.loc
      replace hn : sf.heap.Ns ce.locals m := hn
      rw [place] at hn
      refine ⟨m, hn, fun h2 same => ?_⟩
      obtain ⟨f0, f1, f2, f3, f4, f5⟩ := Ic.fpOk (Nat.le_refl _) nC
      exact ⟨.ref D, He, Ig.turned (t' := sf.toks) (fun b o nb e => (same.2 b nb).trans e) f0 f1 f3 f4 f5, rfl, fin⟩
    · refine thnF (T.item (X.blk sc Hc scope ce fs) rfl rfl rfl calm i [] se _ He (fun _ _ => False) Ie (stays Ie ne) ste go) ?_
      rintro r sf ⟨u, rfl, hf⟩
      refine thnF hf ?_
      rintro _ sg ⟨x, Hg, Ig, rg, yg, stg, ng⟩
      have Ip := Ig.pinned (stays Ig ng) (T.obj _ _ stg)
      refine thnF (g1.run _ sg _ Hg x u _ Ip rg (turn x Hg yg)) ?_
      rintro _ sh ⟨σh, Hh, Ih, wh, qh⟩
      refine thnF (t1.run _ sh σh Hh _ Ih qh) ?_
      rintro b si ⟨Hi, Ii, qi⟩
      have back : ∀ {s' : Shared} {H' : Hp}, Inv (X.blk sc Hc scope ce fs) ([] ++ pinsAt fs sg.heap) σh H' s' → Z H' → ∃ m, m < n ∧ ∃ i H', Inv (X.blk sc Hc scope ce fs) [] (wipe σ (own.map (·.2))) H' s' ∧ rows i s'.heap ∧ (∀ b ∈ fs, H' b = none) ∧ W i m H' := by
        intro s' H' I' zz
        obtain ⟨m3, lt, w3⟩ := less H' zz
        have pin : ∀ b ∈ fs, ∀ o, sg.heap.get? b = some o → s'.heap.get? b = some o ∧ H' b = none := fun b hb o e => by
          have z := I'.pin (b, o) (List.mem_append_right _ (List.mem_append_right _ (mem_pinsAt hb e)))
          exact ⟨z.1, z.2.1⟩
        have len : (wipe σ (own.map (·.2))).length = σh.length := by rw [← wh, wipe_length]
        refine ⟨m3, lt, i + 1, H', (I'.unpinned (pins := [])).weak len ?_, T.keep _ _ _ stg fun b hb o e => (pin b hb o e).1, ?_, w3⟩
        · intro j v e
          rw [← wh] at e
          exact (wipe_some e).1
        · intro b hb
          obtain ⟨o, e, _⟩ := T.obj _ _ stg b hb
          exact (pin b hb o e).2
      cases b with
      | false => exact back Ii qi
      | true =>
        refine thnF (e1.run _ si σh Hi _ Ii qi) ?_
        rintro z sj ⟨yv, Hj, Ij, rj, k, A, rfl, eA, few, zz⟩
        exact addU_ok (X := X.blk sc Hc scope ce fs) Ij eA few rj fun s' I' => back I' zz
  exact codeAny_compStart_set loop (T.self X.A 0 _ _ _ std loop)
def rLenU (P : Program) (w : World) : List V → Hp → VK → Prop := fun xs H Q => ∃ (a : Addr) (A : List Ky), xs = [.ref a] ∧ H a = some (SetU P w a A) ∧ Q (.int (A.length : Nat)) H
theorem call_lenU : CallR X (.builtin "len") (rLenU X.prog X.w) := by
  intro pins s σ H xs us Q I r h
  obtain ⟨a, A, rfl, ea, q⟩ := h
  rw [Vals.ref1 r]
  obtain ⟨o, es, ep, t, ho, hex, hd, _, _, hb, hf, hn⟩ := setK_get I ea
  refine PySem.call_len_set ho hex hd hf ?_ ⟨.int (A.length : Nat), H, I.tok _, ⟨_, by rw [hn]⟩, q⟩
  unfold scanBound at hb
  omega
end
end Ey
/-! ### further readings over data -/
namespace Ey
open PySem PySem.Spec PyProof.Rows L2 PpSet
/-- what an item is as a key -/
def onKey (x : PyData) (k : Ky → Prop) : Prop := byD x (i := fun i => k (.inl i)) (z := fun z => k (.inr z))
theorem inv_key {x : PyData} {k : Ky → Prop} (h : onKey x k) : ∃ y : Ky, k y ∧ ∀ (F : Addr → Prop) (H : Hp) (v : V), Dd F H v x → v = kV y := by
  cases x <;> first
    | exact ⟨_, h, fun F H v d => by cases d; rfl⟩
    | exact h.elim
def dCompK (dg : DG) (dt : DT) (de : DE) (ρ : Env) : List PyData → List Ky → (List Ky → Prop) → Prop
  | [], acc, Q => Q acc
  | x :: xs, acc, Q => dg x ρ fun ρ1 => dt ρ1 fun b => iteB b (de ρ1 fun y => onKey y fun k => dCompK dg dt de ρ xs (addU acc k) Q) (dCompK dg dt de ρ xs acc Q)
/-- len({e for x in xs if ..}) -/
def dLenU (di : DI) (dg : DG) (dt : DT) (de : DE) (ws : List Nat) : DE := fun ρ Q => di ρ fun xs => xs.length ≤ 4000 ∧ dCompK dg dt de (wipeD ρ ws) xs [] fun A => Q (.int (A.length : Nat))
theorem addU_len (A : List Ky) (k : Ky) : (addU A k).length ≤ A.length + 1 := by
  unfold addU
  split
  · omega
  · rw [List.length_append]
    simp
theorem se_lenU {f : Fx} {P : Program} {w : World} {wi : TI} {di : DI} {g : TG} {dg : DG} {tt : TT} {dt : DT} {te : TE} {de : DE} {is ws : List Nat} (hi : SI f wi di) (hg : SG f is g dg) (hw : ∀ i ∈ is, i ∈ ws) (ht : ST f tt dt) (he : SE f te de) :
    SE f (tCB (rLenU P w) (tCons (tScU P w wi g tt te ws) tNil)) (dLenU di dg dt de ws) := fun L σ H ρ Q R r q k =>
  hi L σ H ρ _ _ r q fun J H1 xs g1 it q => by
    intro D nD
    have r1 := r.mv g1
    have deckD : f.off D := fun d l ed => deck_some (r1.deck d l ed) nD
    let W : Nat → Nat → Hp → Prop := fun i m H2 => m = xs.length - i ∧ i ≤ xs.length ∧ ∃ A, Go f H1 H2 ∧ H2 D = some (SetU P w D A) ∧ A.length ≤ i ∧ dCompK dg dt de (wipeD ρ ws) (xs.drop i) A fun A => Q (.int (A.length : Nat))
    refine ⟨W, ⟨xs.length, by simp, Nat.zero_le _, [], r1.new nD, upd_same, Nat.le_refl _, q.2⟩, ?_⟩
    rintro i m H2 ⟨rfl, hi, A, g2, eD, la, q2⟩
    have t2 : Tr f L H1 L H2 := Tr.of g2
    have r2 := r1.mv g2
    by_cases hlt : i < xs.length
    · refine .inr ⟨it.go i _ H2 hlt t2 g2.dk, W (i + 1) (xs.length - (i + 1)), fun H' w => ⟨_, by omega, w⟩, fun v H3 y => ?_⟩
      obtain ⟨g3, dx⟩ := it.yld i xs[i] _ H2 v H3 (List.getElem?_eq_getElem hlt) t2 r2.bare y
      rw [List.drop_eq_getElem_cons hlt] at q2
      refine hg _ _ H3 _ v _ _ _ ((r2.mv g3).wipe ws) dx q2 fun σ4 ρ4 r4 w4 q4 => ⟨?_, ?_⟩
      · rw [w4 ws hw, wipe_in2 ws (fun _ h => h)]
      refine ht _ σ4 H3 ρ4 _ _ r4 q4 fun b H5 g5 q5 => ?_
      cases b with
      | false => exact ⟨rfl, hlt, A, g2.trans (g3.trans g5), (g3.trans g5).kp _ _ eD deckD, by omega, q5⟩
      | true =>
        refine he _ σ4 H5 ρ4 _ _ (r4.mv g5) q5 fun y H6 yd g6 dy q6 => ?_
        replace q6 := inv_key q6
        obtain ⟨ky, q6, ek⟩ := q6
        have g26 := (g3.trans g5).trans g6
        have hx := q.1
        refine ⟨ky, A, ek _ _ _ dy, g26.kp _ _ eD deckD, Nat.lt_of_le_of_lt (show A.length + 1 ≤ 4001 by omega) (by decide), rfl, hlt, addU A ky, ?_, upd_same, Nat.le_trans (addU_len A ky) (by omega), q6⟩
        refine ⟨fun a o e n => ?_, fun d l ed => ?_⟩
        · rw [upd_ne (ne_of_none e nD)]
          exact (g2.trans g26).kp a o e n
        · obtain ⟨ns, m', k', h1, h2, h3⟩ := ((g2.trans g26).dk d l ed).ex
          obtain ⟨n1, n2⟩ := deckD d l ed
          exact ⟨ns, m', k', h1, by rw [upd_ne n1.symm]; exact h2, by rw [upd_ne n2.symm]; exact h3⟩
    · have e : i = xs.length := by omega
      subst e
      rw [List.drop_length] at q2
      exact .inl ⟨it.stop _ H2 t2 g2.dk, D, A, rfl, eD, k _ H2 _ (g1.trans g2) (.int _) q2⟩
/-- all are different if they are as many as what they come from -/
theorem addU_nodup {A : List Ky} (h : A.Nodup) (k : Ky) : (addU A k).Nodup := by
  unfold addU
  cases e : hasU A k with
  | true => exact h
  | false =>
    refine List.nodup_append.mpr ⟨h, by simp, ?_⟩
    intro a ha b hb hab
    rw [List.mem_singleton] at hb
    subst hb hab
    rw [hasU_iff.mpr ha] at e
    cases e
def uniq : List Ky → List Ky → List Ky
  | acc, [] => acc
  | acc, k :: ks => uniq (addU acc k) ks
theorem uniq_le : ∀ (ks acc : List Ky), (uniq acc ks).length ≤ acc.length + ks.length
  | [], acc => by simp [uniq]
  | k :: ks, acc => by
    have h1 := uniq_le ks (addU acc k)
    have h2 := addU_len acc k
    show (uniq (addU acc k) ks).length ≤ _
    rw [List.length_cons]
    omega
theorem uniq_eq : ∀ (ks acc : List Ky), acc.Nodup → ((uniq acc ks).length = acc.length + ks.length ↔ (acc ++ ks).Nodup)
  | [], acc, h => by simpa [uniq] using h
  | k :: ks, acc, h => by
    show (uniq (addU acc k) ks).length = _ ↔ _
    cases e : hasU acc k with
    | true =>
      have a : addU acc k = acc := by
        unfold addU
        rw [e, if_pos rfl]
      rw [a]
      have l := uniq_le ks acc
      rw [List.length_cons]
      constructor
      · intro h
        omega
      · intro n
        have z := (List.nodup_append.mp n).2.2 k (hasU_iff.mp e) k List.mem_cons_self
        exact absurd rfl z
    | false =>
      have a : addU acc k = acc ++ [k] := by
        unfold addU
        rw [e]
        rfl
      have z := uniq_eq ks (addU acc k) (addU_nodup h k)
      rw [a] at z ⊢
      rw [List.length_append, List.append_assoc] at z
      rw [List.length_cons]
      simp only [List.length_cons, List.length_nil, List.cons_append, List.nil_append] at z
      rw [← z]
      omega
end Ey
/-! max and min of two values that stand in the heap (pairs) -/
namespace Ey
open PySem PySem.Spec PyProof.Rows L2
section
variable {prog : Program} {w : World} {A : Around} {R : Result → Shared → Prop}
/-- max of two values whose comparison gives r -/
theorem mxl_end {I S : Addr} {fp wr : List Addr} {P : Nat → Value → Prop} {St : Nat → Heap → Prop} (W : Walks prog w A.in1 I fp wr 2 P St) (nS : S ∉ fp) {s : Shared} {c : Nat} {b : Value} (st : St 2 s.heap)
    (eS : s.heap.get? S = some { cls := .type "list", dict := none, data := .seq #[b, b] c, slots := #[] })
    (k : ∀ h2 t, (∀ x o, x ∉ wr → x ≠ S → s.heap.get? x = some o → h2.get? x = some o) → R (.ok (.ret b)) { s with heap := h2, toks := t }) :
    codeAny (model prog w) A (.builtin "max.loop" ⟨[.ref I, .none, .ref S], []⟩) R s := by
  have nw : S ∉ wr := fun z => nS (W.sub _ z)
  refine codeAny_builtin F.entry_max_loop ?_; rw [Around.under_plainId F.plain_max_loop _]
  change wpAny _ A.in1 (seqItems? (.ref S) >>= _) _ _ _
  refine wpAny_bind (wpAny_seqItems eS rfl ?_); change wpAny _ A.in1 (tryCatch (pyNext (.ref I)) _ >>= _) _ _ _
  refine wpAny_bind (wpAny_tryCatch (W.done s _ _ st fun h2 t kept => ?_))
  have e2 := kept S _ nw eS
  change wpAny _ A.in1 (updateSeq S (fun _ => #[]) >>= _) _ _ _
  refine wpAny_bind ?_; refine wpAny_updateSeq e2 rfl ?_
  refine wpAny_bind (wpAny_letGo (wpAny_pure ?_))
  exact k _ t fun x o n1 n2 e => (Heap.get?_update_other _ _ (Ne.symm n2)).trans (kept x o n1 e)
theorem mxl_mid {I S : Addr} {fp wr : List Addr} {P : Nat → Value → Prop} {St : Nat → Heap → Prop} (W : Walks prog w A.in1 I fp wr 2 P St) (nS : S ∉ fp) {s : Shared} {c : Nat} {a b : Value} {r : Bool} (st : St 1 s.heap) (hb : ∀ v, P 1 v → v = b)
    (eS : s.heap.get? S = some { cls := .type "list", dict := none, data := .seq #[a, a] c, slots := #[] })
    (cmp : ∀ (z : Shared) (Q E : Value → Shared → Prop), (∀ x o, x ∉ wr → x ≠ S → s.heap.get? x = some o → z.heap.get? x = some o) → Q (.bool r) z → wpAny (model prog w) A.in1 (richCompare .Gt b a) Q E z)
    (k : ∀ h2 t, (∀ x o, x ∉ wr → x ≠ S → s.heap.get? x = some o → h2.get? x = some o) → R (.ok (.ret (if r = true then b else a))) { s with heap := h2, toks := t }) :
    codeAny (model prog w) A (.builtin "max.loop" ⟨[.ref I, .none, .ref S], []⟩) R s := by
  have nw : S ∉ wr := fun z => nS (W.sub _ z)
  have nm : (toString "max" ++ toString ".loop" : String) = "max.loop" := by decide
  refine codeAny_builtin F.entry_max_loop ?_; rw [Around.under_plainId F.plain_max_loop _]
  change wpAny _ A.in1 (seqItems? (.ref S) >>= _) _ _ _
  refine wpAny_bind (wpAny_seqItems eS rfl ?_); change wpAny _ A.in1 (tryCatch (pyNext (.ref I)) _ >>= _) _ _ _
  refine wpAny_bind (wpAny_tryCatch (W.item 1 s _ _ (by decide) st fun v h2 t pv st2 kept => ?_))
  obtain rfl := hb v pv
  have e2 := kept S _ nw eS
  change wpAny _ A.in1 (tryCatch (holding [v, v] (richCompare .Gt v a >>= _)) _ >>= _) _ _ _
  refine wpAny_bind (wpAny_tryCatch (wpAny_holding (wpAny_bind (cmp _ _ _ (fun x o n1 n2 e => kept x o n1 e) ?_))))
  refine wpAny_bind (wpAny_holding (wpAny_truthy_bool ?_)); refine wpAny_bind (wpAny_letGo (wpAny_pure ?_))
  cases r with
  | true =>
    simp only [if_true]
    refine wpAny_bind ?_; refine wpAny_updateSeq e2 rfl ?_
    refine wpAny_bind (wpAny_letGo ?_)
    rw [nm]
    refine wpAny_pure ⟨plainId_quiet F.plain_max_loop _, mxl_end W nS ?_ (Heap.get?_update_self _ e2 rfl) ?_⟩
    · exact W.frame _ _ _ st2 fun x nx o e => (Heap.get?_update_other _ _ (fun z : S = x => nS (by rw [z]; exact nx))).trans e
    · exact fun h3 t3 kept3 => k h3 t3 fun x o n1 n2 e => kept3 x o n1 n2 ((Heap.get?_update_other _ _ (Ne.symm n2)).trans (kept x o n1 e))
  | false =>
    simp only [Bool.false_eq_true, if_false]
    refine wpAny_bind (wpAny_letGo ?_)
    rw [nm]
    refine wpAny_pure ⟨plainId_quiet F.plain_max_loop _, mxl_end W nS st2 e2 ?_⟩
    exact fun h3 t3 kept3 => k h3 t3 fun x o n1 n2 e => kept3 x o n1 n2 (kept x o n1 e)
theorem mxl_two {I S : Addr} {fp wr : List Addr} {P : Nat → Value → Prop} {St : Nat → Heap → Prop} (W : Walks prog w A.in1 I fp wr 2 P St) (nS : S ∉ fp) {s : Shared} {c : Nat} {a b : Value} {r : Bool} (st : St 0 s.heap) (ha : ∀ v, P 0 v → v = a) (hb : ∀ v, P 1 v → v = b)
    (eS : s.heap.get? S = some { cls := .type "list", dict := none, data := .seq #[] c, slots := #[] })
    (cmp : ∀ (z : Shared) (Q E : Value → Shared → Prop), (∀ x o, x ∉ wr → x ≠ S → s.heap.get? x = some o → z.heap.get? x = some o) → Q (.bool r) z → wpAny (model prog w) A.in1 (richCompare .Gt b a) Q E z)
    (k : ∀ h2 t, (∀ x o, x ∉ wr → x ≠ S → s.heap.get? x = some o → h2.get? x = some o) → R (.ok (.ret (if r = true then b else a))) { s with heap := h2, toks := t }) :
    codeAny (model prog w) A (.builtin "max.loop" ⟨[.ref I, .none, .ref S], []⟩) R s := by
  have nw : S ∉ wr := fun z => nS (W.sub _ z)
  have nm : (toString "max" ++ toString ".loop" : String) = "max.loop" := by decide
  refine codeAny_builtin F.entry_max_loop ?_; rw [Around.under_plainId F.plain_max_loop _]
  change wpAny _ A.in1 (seqItems? (.ref S) >>= _) _ _ _
  refine wpAny_bind (wpAny_seqItems eS rfl ?_); change wpAny _ A.in1 (tryCatch (pyNext (.ref I)) _ >>= _) _ _ _
  refine wpAny_bind (wpAny_tryCatch (W.item 0 s _ _ (by decide) st fun v h2 t pv st2 kept => ?_))
  obtain rfl := ha v pv
  have e2 := kept S _ nw eS
  change wpAny _ A.in1 (updateSeq S (fun _ => #[v, v]) >>= _) _ _ _
  refine wpAny_bind ?_; refine wpAny_updateSeq e2 rfl ?_
  rw [nm]
  refine wpAny_pure ⟨plainId_quiet F.plain_max_loop _, mxl_mid W nS ?_ hb (Heap.get?_update_self _ e2 rfl) (fun z Q E g q => cmp z Q E (fun x o n1 n2 e => g x o n1 n2 ((Heap.get?_update_other _ _ (Ne.symm n2)).trans (kept x o n1 e))) q) ?_⟩
  · exact W.frame _ _ _ st2 fun x nx o e => (Heap.get?_update_other _ _ (fun z : S = x => nS (by rw [z]; exact nx))).trans e
  · exact fun h3 t3 kept3 => k h3 t3 fun x o n1 n2 e => kept3 x o n1 n2 ((Heap.get?_update_other _ _ (Ne.symm n2)).trans (kept x o n1 e))
theorem max_of_two {E : Value → Shared → Prop} {s : Shared} {a b : Value} {r : Bool} {Q : Value → Shared → Prop} (hh : A.handled = none)
    (cmp : ∀ (z : Shared) (Q E : Value → Shared → Prop), (∀ x o, s.heap.get? x = some o → z.heap.get? x = some o) → Q (.bool r) z → wpAny (model prog w) A.in1 (richCompare .Gt b a) Q E z)
    (k : ∀ h2 t, (∀ x o, s.heap.get? x = some o → h2.get? x = some o) → Q (if r = true then b else a) { s with heap := h2, toks := t }) :
    wpAny (model prog w) A (call (.builtin "max") [a, b]) Q E s := by
  have nm : (toString "max" ++ toString ".loop" : String) = "max.loop" := by decide
  refine call_function_tree F.kind_max F.plain_max F.entry_max (F.args_max2 a b) ?_
  change wpAny _ A.in1 (Builtin.Builtins.bindParams "max" ["key", "default"] 0 ⟨[], []⟩ >>= _) _ _ _
  refine wpAny_bind (wpAny_of_eq (show Builtin.Builtins.bindParams "max" ["key", "default"] 0 ⟨[], []⟩ = pure [none, none] from rfl) ?_)
  change wpAny _ A.in1 (newTuple [a, b] >>= _) _ _ _
  refine wpAny_bind (wpAny_newObj_type ?_)
  generalize e1 : s.heap.push { cls := .type "tuple", data := .seq #[a, b] } = h1
  have tup : h1.IsTuple s.heap.objs.size #[a, b] := by
    subst e1
    exact ⟨_, Heap.get?_push_size _ rfl, rfl, 0, rfl⟩
  have z1 : h1.objs.size = s.heap.objs.size + 1 := by
    subst e1
    exact Heap.size_push ..
  have old1 : ∀ x o, s.heap.get? x = some o → h1.get? x = some o := fun x o e => by
    subst e1
    exact Heap.get?_push_of_some _ e
  have lt1 : ∀ x o, s.heap.get? x = some o → x < s.heap.objs.size := fun x o e => Heap.lt_size e
  refine wpAny_bind (wpAny_pyIter_tuple tup ?_)
  generalize e2 : Heap.push h1 _ = h2
  have z2 : h2.objs.size = s.heap.objs.size + 2 := by
    subst e2
    rw [Heap.size_push, z1]
  have old2 : ∀ x o, h1.get? x = some o → h2.get? x = some o := fun x o e => by
    subst e2
    exact Heap.get?_push_of_some _ e
  have it2 : h2.get? h1.objs.size = some { cls := .type "tuple_iterator", data := .fields #[.ref s.heap.objs.size, .int 0 0] } := by
    subst e2
    exact Heap.get?_push_size _ rfl
  refine wpAny_bind (wpAny_newObj_type ?_)
  dsimp only
  generalize e3 : Heap.push h2 _ = h3
  have old3 : ∀ x o, h2.get? x = some o → h3.get? x = some o := fun x o e => by
    subst e3
    exact Heap.get?_push_of_some _ e
  have new3 : h3.get? h2.objs.size = some { cls := .type "list", dict := none, data := .seq #[] 0, slots := #[] } := by
    subst e3
    exact Heap.get?_push_size _ rfl
  have back : ∀ (x : Addr) (o : Obj), s.heap.get? x = some o → x ∉ [h1.objs.size] ∧ x ≠ h2.objs.size ∧ h3.get? x = some o := fun x o e => by
    have l := lt1 x o e
    refine ⟨fun m => ?_, fun m => ?_, old3 x o (old2 x o (old1 x o e))⟩
    · rw [List.mem_singleton, z1] at m
      rw [m] at l
      exact Nat.not_succ_le_self _ (Nat.le_of_succ_le l)
    · rw [z2] at m
      rw [m] at l
      exact Nat.not_succ_le_self _ (Nat.le_of_succ_le (Nat.le_of_succ_le l))
  rw [nm]
  refine wpAny_pure ⟨plainId_quiet F.plain_max_loop _, mxl_two (Walks.tuple (A := A.in1) hh h1.objs.size s.heap.objs.size (by rw [z1]; exact Nat.ne_of_lt (Nat.lt_succ_self _)) #[a, b]) ?_ ?_ (a := a) (b := b) (r := r) ?_ ?_ new3 ?_ ?_⟩
  · intro m
    rcases List.mem_cons.mp m with m | m
    · rw [z2, z1] at m
      have m : (s.heap.objs.size + 2 : Nat) = s.heap.objs.size + 1 := m
      omega
    · rw [List.mem_singleton, z2] at m
      have m : (s.heap.objs.size + 2 : Nat) = s.heap.objs.size := m
      omega
  · refine ⟨⟨_, old3 _ _ it2, rfl, rfl⟩, ?_⟩
    obtain ⟨o, eo, q⟩ := tup
    exact ⟨o, old3 _ _ (old2 _ _ eo), q⟩
  · intro v e
    exact (Option.some.inj e).symm
  · intro v e
    exact (Option.some.inj e).symm
  · exact fun z Q E g q => cmp z Q E (fun x o e => g x o (back x o e).1 (back x o e).2.1 (back x o e).2.2) q
  · exact fun h4 t g => k h4 t fun x o e => g x o (back x o e).1 (back x o e).2.1 (back x o e).2.2

/-- min of two values whose comparison gives r -/
theorem mnl_end {I S : Addr} {fp wr : List Addr} {P : Nat → Value → Prop} {St : Nat → Heap → Prop} (W : Walks prog w A.in1 I fp wr 2 P St) (nS : S ∉ fp) {s : Shared} {c : Nat} {b : Value} (st : St 2 s.heap)
    (eS : s.heap.get? S = some { cls := .type "list", dict := none, data := .seq #[b, b] c, slots := #[] })
    (k : ∀ h2 t, (∀ x o, x ∉ wr → x ≠ S → s.heap.get? x = some o → h2.get? x = some o) → R (.ok (.ret b)) { s with heap := h2, toks := t }) :
    codeAny (model prog w) A (.builtin "min.loop" ⟨[.ref I, .none, .ref S], []⟩) R s := by
  have nw : S ∉ wr := fun z => nS (W.sub _ z)
  refine codeAny_builtin F.entry_min_loop ?_; rw [Around.under_plainId F.plain_min_loop _]
  change wpAny _ A.in1 (seqItems? (.ref S) >>= _) _ _ _
  refine wpAny_bind (wpAny_seqItems eS rfl ?_); change wpAny _ A.in1 (tryCatch (pyNext (.ref I)) _ >>= _) _ _ _
  refine wpAny_bind (wpAny_tryCatch (W.done s _ _ st fun h2 t kept => ?_))
  have e2 := kept S _ nw eS
  change wpAny _ A.in1 (updateSeq S (fun _ => #[]) >>= _) _ _ _
  refine wpAny_bind ?_; refine wpAny_updateSeq e2 rfl ?_
  refine wpAny_bind (wpAny_letGo (wpAny_pure ?_))
  exact k _ t fun x o n1 n2 e => (Heap.get?_update_other _ _ (Ne.symm n2)).trans (kept x o n1 e)
theorem mnl_mid {I S : Addr} {fp wr : List Addr} {P : Nat → Value → Prop} {St : Nat → Heap → Prop} (W : Walks prog w A.in1 I fp wr 2 P St) (nS : S ∉ fp) {s : Shared} {c : Nat} {a b : Value} {r : Bool} (st : St 1 s.heap) (hb : ∀ v, P 1 v → v = b)
    (eS : s.heap.get? S = some { cls := .type "list", dict := none, data := .seq #[a, a] c, slots := #[] })
    (cmp : ∀ (z : Shared) (Q E : Value → Shared → Prop), (∀ x o, x ∉ wr → x ≠ S → s.heap.get? x = some o → z.heap.get? x = some o) → Q (.bool r) z → wpAny (model prog w) A.in1 (richCompare .Lt b a) Q E z)
    (k : ∀ h2 t, (∀ x o, x ∉ wr → x ≠ S → s.heap.get? x = some o → h2.get? x = some o) → R (.ok (.ret (if r = true then b else a))) { s with heap := h2, toks := t }) :
    codeAny (model prog w) A (.builtin "min.loop" ⟨[.ref I, .none, .ref S], []⟩) R s := by
  have nw : S ∉ wr := fun z => nS (W.sub _ z)
  have nm : (toString "min" ++ toString ".loop" : String) = "min.loop" := by decide
  refine codeAny_builtin F.entry_min_loop ?_; rw [Around.under_plainId F.plain_min_loop _]
  change wpAny _ A.in1 (seqItems? (.ref S) >>= _) _ _ _
  refine wpAny_bind (wpAny_seqItems eS rfl ?_); change wpAny _ A.in1 (tryCatch (pyNext (.ref I)) _ >>= _) _ _ _
  refine wpAny_bind (wpAny_tryCatch (W.item 1 s _ _ (by decide) st fun v h2 t pv st2 kept => ?_))
  obtain rfl := hb v pv
  have e2 := kept S _ nw eS
  change wpAny _ A.in1 (tryCatch (holding [v, v] (richCompare .Lt v a >>= _)) _ >>= _) _ _ _
  refine wpAny_bind (wpAny_tryCatch (wpAny_holding (wpAny_bind (cmp _ _ _ (fun x o n1 n2 e => kept x o n1 e) ?_))))
  refine wpAny_bind (wpAny_holding (wpAny_truthy_bool ?_)); refine wpAny_bind (wpAny_letGo (wpAny_pure ?_))
  cases r with
  | true =>
    simp only [if_true]
    refine wpAny_bind ?_; refine wpAny_updateSeq e2 rfl ?_
    refine wpAny_bind (wpAny_letGo ?_)
    rw [nm]
    refine wpAny_pure ⟨plainId_quiet F.plain_min_loop _, mnl_end W nS ?_ (Heap.get?_update_self _ e2 rfl) ?_⟩
    · exact W.frame _ _ _ st2 fun x nx o e => (Heap.get?_update_other _ _ (fun z : S = x => nS (by rw [z]; exact nx))).trans e
    · exact fun h3 t3 kept3 => k h3 t3 fun x o n1 n2 e => kept3 x o n1 n2 ((Heap.get?_update_other _ _ (Ne.symm n2)).trans (kept x o n1 e))
  | false =>
    simp only [Bool.false_eq_true, if_false]
    refine wpAny_bind (wpAny_letGo ?_)
    rw [nm]
    refine wpAny_pure ⟨plainId_quiet F.plain_min_loop _, mnl_end W nS st2 e2 ?_⟩
    exact fun h3 t3 kept3 => k h3 t3 fun x o n1 n2 e => kept3 x o n1 n2 (kept x o n1 e)
theorem mnl_two {I S : Addr} {fp wr : List Addr} {P : Nat → Value → Prop} {St : Nat → Heap → Prop} (W : Walks prog w A.in1 I fp wr 2 P St) (nS : S ∉ fp) {s : Shared} {c : Nat} {a b : Value} {r : Bool} (st : St 0 s.heap) (ha : ∀ v, P 0 v → v = a) (hb : ∀ v, P 1 v → v = b)
    (eS : s.heap.get? S = some { cls := .type "list", dict := none, data := .seq #[] c, slots := #[] })
    (cmp : ∀ (z : Shared) (Q E : Value → Shared → Prop), (∀ x o, x ∉ wr → x ≠ S → s.heap.get? x = some o → z.heap.get? x = some o) → Q (.bool r) z → wpAny (model prog w) A.in1 (richCompare .Lt b a) Q E z)
    (k : ∀ h2 t, (∀ x o, x ∉ wr → x ≠ S → s.heap.get? x = some o → h2.get? x = some o) → R (.ok (.ret (if r = true then b else a))) { s with heap := h2, toks := t }) :
    codeAny (model prog w) A (.builtin "min.loop" ⟨[.ref I, .none, .ref S], []⟩) R s := by
  have nw : S ∉ wr := fun z => nS (W.sub _ z)
  have nm : (toString "min" ++ toString ".loop" : String) = "min.loop" := by decide
  refine codeAny_builtin F.entry_min_loop ?_; rw [Around.under_plainId F.plain_min_loop _]
  change wpAny _ A.in1 (seqItems? (.ref S) >>= _) _ _ _
  refine wpAny_bind (wpAny_seqItems eS rfl ?_); change wpAny _ A.in1 (tryCatch (pyNext (.ref I)) _ >>= _) _ _ _
  refine wpAny_bind (wpAny_tryCatch (W.item 0 s _ _ (by decide) st fun v h2 t pv st2 kept => ?_))
  obtain rfl := ha v pv
  have e2 := kept S _ nw eS
  change wpAny _ A.in1 (updateSeq S (fun _ => #[v, v]) >>= _) _ _ _
  refine wpAny_bind ?_; refine wpAny_updateSeq e2 rfl ?_
  rw [nm]
  refine wpAny_pure ⟨plainId_quiet F.plain_min_loop _, mnl_mid W nS ?_ hb (Heap.get?_update_self _ e2 rfl) (fun z Q E g q => cmp z Q E (fun x o n1 n2 e => g x o n1 n2 ((Heap.get?_update_other _ _ (Ne.symm n2)).trans (kept x o n1 e))) q) ?_⟩
  · exact W.frame _ _ _ st2 fun x nx o e => (Heap.get?_update_other _ _ (fun z : S = x => nS (by rw [z]; exact nx))).trans e
  · exact fun h3 t3 kept3 => k h3 t3 fun x o n1 n2 e => kept3 x o n1 n2 ((Heap.get?_update_other _ _ (Ne.symm n2)).trans (kept x o n1 e))
theorem min_of_two {E : Value → Shared → Prop} {s : Shared} {a b : Value} {r : Bool} {Q : Value → Shared → Prop} (hh : A.handled = none)
    (cmp : ∀ (z : Shared) (Q E : Value → Shared → Prop), (∀ x o, s.heap.get? x = some o → z.heap.get? x = some o) → Q (.bool r) z → wpAny (model prog w) A.in1 (richCompare .Lt b a) Q E z)
    (k : ∀ h2 t, (∀ x o, s.heap.get? x = some o → h2.get? x = some o) → Q (if r = true then b else a) { s with heap := h2, toks := t }) :
    wpAny (model prog w) A (call (.builtin "min") [a, b]) Q E s := by
  have nm : (toString "min" ++ toString ".loop" : String) = "min.loop" := by decide
  refine call_function_tree F.kind_min F.plain_min F.entry_min (F.args_min2 a b) ?_
  change wpAny _ A.in1 (Builtin.Builtins.bindParams "min" ["key", "default"] 0 ⟨[], []⟩ >>= _) _ _ _
  refine wpAny_bind (wpAny_of_eq (show Builtin.Builtins.bindParams "min" ["key", "default"] 0 ⟨[], []⟩ = pure [none, none] from rfl) ?_)
  change wpAny _ A.in1 (newTuple [a, b] >>= _) _ _ _
  refine wpAny_bind (wpAny_newObj_type ?_)
  generalize e1 : s.heap.push { cls := .type "tuple", data := .seq #[a, b] } = h1
  have tup : h1.IsTuple s.heap.objs.size #[a, b] := by
    subst e1
    exact ⟨_, Heap.get?_push_size _ rfl, rfl, 0, rfl⟩
  have z1 : h1.objs.size = s.heap.objs.size + 1 := by
    subst e1
    exact Heap.size_push ..
  have old1 : ∀ x o, s.heap.get? x = some o → h1.get? x = some o := fun x o e => by
    subst e1
    exact Heap.get?_push_of_some _ e
  have lt1 : ∀ x o, s.heap.get? x = some o → x < s.heap.objs.size := fun x o e => Heap.lt_size e
  refine wpAny_bind (wpAny_pyIter_tuple tup ?_)
  generalize e2 : Heap.push h1 _ = h2
  have z2 : h2.objs.size = s.heap.objs.size + 2 := by
    subst e2
    rw [Heap.size_push, z1]
  have old2 : ∀ x o, h1.get? x = some o → h2.get? x = some o := fun x o e => by
    subst e2
    exact Heap.get?_push_of_some _ e
  have it2 : h2.get? h1.objs.size = some { cls := .type "tuple_iterator", data := .fields #[.ref s.heap.objs.size, .int 0 0] } := by
    subst e2
    exact Heap.get?_push_size _ rfl
  refine wpAny_bind (wpAny_newObj_type ?_)
  dsimp only
  generalize e3 : Heap.push h2 _ = h3
  have old3 : ∀ x o, h2.get? x = some o → h3.get? x = some o := fun x o e => by
    subst e3
    exact Heap.get?_push_of_some _ e
  have new3 : h3.get? h2.objs.size = some { cls := .type "list", dict := none, data := .seq #[] 0, slots := #[] } := by
    subst e3
    exact Heap.get?_push_size _ rfl
  have back : ∀ (x : Addr) (o : Obj), s.heap.get? x = some o → x ∉ [h1.objs.size] ∧ x ≠ h2.objs.size ∧ h3.get? x = some o := fun x o e => by
    have l := lt1 x o e
    refine ⟨fun m => ?_, fun m => ?_, old3 x o (old2 x o (old1 x o e))⟩
    · rw [List.mem_singleton, z1] at m
      rw [m] at l
      exact Nat.not_succ_le_self _ (Nat.le_of_succ_le l)
    · rw [z2] at m
      rw [m] at l
      exact Nat.not_succ_le_self _ (Nat.le_of_succ_le (Nat.le_of_succ_le l))
  rw [nm]
  refine wpAny_pure ⟨plainId_quiet F.plain_min_loop _, mnl_two (Walks.tuple (A := A.in1) hh h1.objs.size s.heap.objs.size (by rw [z1]; exact Nat.ne_of_lt (Nat.lt_succ_self _)) #[a, b]) ?_ ?_ (a := a) (b := b) (r := r) ?_ ?_ new3 ?_ ?_⟩
  · intro m
    rcases List.mem_cons.mp m with m | m
    · rw [z2, z1] at m
      have m : (s.heap.objs.size + 2 : Nat) = s.heap.objs.size + 1 := m
      omega
    · rw [List.mem_singleton, z2] at m
      have m : (s.heap.objs.size + 2 : Nat) = s.heap.objs.size := m
      omega
  · refine ⟨⟨_, old3 _ _ it2, rfl, rfl⟩, ?_⟩
    obtain ⟨o, eo, q⟩ := tup
    exact ⟨o, old3 _ _ (old2 _ _ eo), q⟩
  · intro v e
    exact (Option.some.inj e).symm
  · intro v e
    exact (Option.some.inj e).symm
  · exact fun z Q E g q => cmp z Q E (fun x o e => g x o (back x o e).1 (back x o e).2.1 (back x o e).2.2) q
  · exact fun h4 t g => k h4 t fun x o e => g x o (back x o e).1 (back x o e).2.1 (back x o e).2.2

end
end Ey
/-! max and min of two pairs of integers, and which comes first -/
namespace Ey
open PySem PySem.Spec PyProof.Rows L2
/-- (a, b) < (c, d) -/
def ltP (a b c d : Int) : Bool := if a = c then decide (b < d) else decide (a < c)
section
variable {X : Cx} {pins : List (Addr × Obj)} {σ : L2.St} {H : Hp} {s : Shared}
theorem pair_at {z : Shared} {its : List Value} {a b : Int} (r : Vals [.int a, .int b] its) : ∃ t u, its = [.int a t, .int b u] := by
  cases r with
  | cons h r =>
    cases r with
    | cons h2 r =>
      cases r
      obtain ⟨t, rfl⟩ := h
      obtain ⟨u, rfl⟩ := h2
      exact ⟨t, u, rfl⟩
theorem dec_beq (x y : Int) : (x == y) = decide (x = y) := by
  by_cases h : x = y
  · rw [decide_eq_true h]
    exact beq_iff_eq.mpr h
  · rw [decide_eq_false h]
    exact beq_eq_false_iff_ne.mpr h
theorem lt_pair {A : Around} {z : Shared} {p q : Addr} {a b c d : Int} {t u t2 u2 : Tok} (hp : z.heap.IsTuple p #[.int a t, .int b u]) (hq : z.heap.IsTuple q #[.int c t2, .int d u2]) (hu : A.units < cLine) : Ob.RcOp .Lt A z (.ref p) (.ref q) (ltP a b c d) := by
  have R := Ob.RcOp.tuples_lt (A := A) (s := z) (e := fun j => if j = 0 then decide (a = c) else decide (b = d)) (r := fun j => if j = 0 then decide (a < c) else decide (b < d)) hp hq hu
    (fun j h1 h2 => by
      match j, h1 with
      | 0, _ => exact dec_beq a c ▸ SeqAt.EqAt.int_int _ _ _ _
      | 1, _ => exact dec_beq b d ▸ SeqAt.EqAt.int_int _ _ _ _
      | _ + 2, h1 => exact absurd h1 (by simp))
    (fun j h1 h2 _ => by
      match j, h1 with
      | 0, _ => exact Ob.RcOp.lt_int _ _ _ _
      | 1, _ => exact Ob.RcOp.lt_int _ _ _ _
      | _ + 2, h1 => exact absurd h1 (by simp))
  have e : Ob.lexAt (fun j => if j = 0 then decide (a = c) else decide (b = d)) (fun j => if j = 0 then decide (a < c) else decide (b < d)) (decide (2 < 2)) 0 2 = ltP a b c d := by
    unfold ltP
    by_cases h : a = c
    · by_cases g : b = d
      · subst h g
        simp [Ob.lexAt]
      · simp [Ob.lexAt, h, g]
    · simp [Ob.lexAt, h]
  rw [← e]
  exact R
theorem gt_pair {A : Around} {z : Shared} {p q : Addr} {a b c d : Int} {t u t2 u2 : Tok} (hp : z.heap.IsTuple p #[.int a t, .int b u]) (hq : z.heap.IsTuple q #[.int c t2, .int d u2]) (hu : A.units < cLine) : Ob.RcOp .Gt A z (.ref q) (.ref p) (ltP a b c d) := by
  have R := Ob.RcOp.tuples_gt (A := A) (s := z) (e := fun j => if j = 0 then decide (c = a) else decide (d = b)) (r := fun j => if j = 0 then decide (a < c) else decide (b < d)) hq hp hu
    (fun j h1 h2 => by
      match j, h1 with
      | 0, _ => exact dec_beq c a ▸ SeqAt.EqAt.int_int _ _ _ _
      | 1, _ => exact dec_beq d b ▸ SeqAt.EqAt.int_int _ _ _ _
      | _ + 2, h1 => exact absurd h1 (by simp))
    (fun j h1 h2 _ => by
      match j, h1 with
      | 0, _ => exact Ob.RcOp.gt_int _ _ _ _
      | 1, _ => exact Ob.RcOp.gt_int _ _ _ _
      | _ + 2, h1 => exact absurd h1 (by simp))
  have e : Ob.lexAt (fun j => if j = 0 then decide (c = a) else decide (d = b)) (fun j => if j = 0 then decide (a < c) else decide (b < d)) (decide (2 > 2)) 0 2 = ltP a b c d := by
    unfold ltP
    by_cases h : a = c
    · by_cases g : b = d
      · subst h g
        simp [Ob.lexAt]
      · have g2 : ¬ d = b := fun z => g z.symm
        simp [Ob.lexAt, h, g2]
    · have h2 : ¬ c = a := fun z => h z.symm
      simp [Ob.lexAt, h, h2]
  rw [← e]
  exact R
/-- two pairs -/
def Pr2 (K : PySem.W.Frag) (H : Hp) (p q : Addr) (a b c d : Int) : Prop := SqT K H p [.int a, .int b] ∧ SqT K H q [.int c, .int d]
def rMaxP (K : PySem.W.Frag) : List V → Hp → VK → Prop := fun xs H Q => rMax2 xs H Q ∨ ∃ p q a b c d, xs = [.ref p, .ref q] ∧ Pr2 K H p q a b c d ∧ Q (if ltP a b c d = true then .ref q else .ref p) H
def rMinP (K : PySem.W.Frag) : List V → Hp → VK → Prop := fun xs H Q => rMin2 xs H Q ∨ ∃ p q a b c d, xs = [.ref p, .ref q] ∧ Pr2 K H p q a b c d ∧ Q (if ltP c d a b = true then .ref q else .ref p) H
theorem rel_pick {b : Bool} {p q : Addr} : RelV (if b = true then V.ref q else V.ref p) (if b = true then Value.ref q else Value.ref p) := by
  cases b <;> rfl
theorem tup_kept {z z2 : Shared} {p : Addr} {its : Array Value} (h : z.heap.IsTuple p its) (k : ∀ x o, z.heap.get? x = some o → z2.heap.get? x = some o) : z2.heap.IsTuple p its := by
  obtain ⟨o, e, q⟩ := h
  exact ⟨o, k _ _ e, q⟩
theorem cr_maxP (hc : X.calm = true) (hu : X.A.in1.units < cLine) : CallR X (.builtin "max") (rMaxP X.K) := by
  intro pins s σ H xs us Q I r h
  rcases h with h | ⟨p, q, a, b, c, d, rfl, ⟨hp, hq⟩, k⟩
  · exact call_max2 hc pins s σ H xs us Q I r h
  · obtain ⟨u1, u2, rfl, h1, h2⟩ := vals2 r
    cases h1
    cases h2
    obtain ⟨i1, r1, p1, _⟩ := I.tuple hp
    obtain ⟨i2, r2, p2, _⟩ := I.tuple hq
    obtain ⟨t, u, rfl⟩ := pair_at (z := s) r1
    obtain ⟨t2, u2, rfl⟩ := pair_at (z := s) r2
    refine max_of_two (r := ltP a b c d) (I.ok.hd hc) (fun z Q E kept qq => gt_pair (tup_kept p1 kept) (tup_kept p2 kept) hu _ _ _ _ qq) fun h' tk kept => ⟨_, H, I.kept kept, rel_pick, k⟩
theorem cr_minP (hc : X.calm = true) (hu : X.A.in1.units < cLine) : CallR X (.builtin "min") (rMinP X.K) := by
  intro pins s σ H xs us Q I r h
  rcases h with h | ⟨p, q, a, b, c, d, rfl, ⟨hp, hq⟩, k⟩
  · exact call_min2 hc pins s σ H xs us Q I r h
  · obtain ⟨u1, u2, rfl, h1, h2⟩ := vals2 r
    cases h1
    cases h2
    obtain ⟨i1, r1, p1, _⟩ := I.tuple hp
    obtain ⟨i2, r2, p2, _⟩ := I.tuple hq
    obtain ⟨t, u, rfl⟩ := pair_at (z := s) r1
    obtain ⟨t2, u2, rfl⟩ := pair_at (z := s) r2
    refine min_of_two (r := ltP c d a b) (I.ok.hd hc) (fun z Q E kept qq => lt_pair (tup_kept p2 kept) (tup_kept p1 kept) hu _ _ _ _ qq) fun h' tk kept => ⟨_, H, I.kept kept, rel_pick, k⟩
end
end Ey
/-! readings of pairs compared; displays of dicts; bool(); a call without arguments; list.pop(i) -/
namespace Ey
open PySem PySem.Spec PyProof.Rows L2
def prD (a b : Int) : PyData := .tuple [.int a, .int b]
theorem dd_pair {F : Addr → Prop} {H : Hp} {v : V} {a b : Int} (d : Dd F H v (prD a b)) : ∃ p, v = .ref p ∧ H p = some (.tup [.int a, .int b]) := by
  unfold prD at d
  cases d with
  | tup e r =>
    cases r with
    | cons h r =>
      cases r with
      | cons h2 r =>
        cases r
        cases h
        cases h2
        exact ⟨_, rfl, e⟩
section
variable {f : Fx} {K : PySem.W.Frag}
def dMaxP : RNd := fun xs Q => dMax2 xs Q ∨ ∃ a b c d, xs = [prD a b, prD c d] ∧ Q (if ltP a b c d = true then prD c d else prD a b)
def dMinP : RNd := fun xs Q => dMin2 xs Q ∨ ∃ a b c d, xs = [prD a b, prD c d] ∧ Q (if ltP c d a b = true then prD c d else prD a b)
theorem sn_maxP : SN f (rMaxP K) dMaxP := fun L σ H ρ vs xs Q R r d q k => by
  rcases q with q | ⟨a, b, c, e, rfl, q⟩
  · exact .inl (sn_max2 L σ H ρ vs xs Q R r d q k)
  · cases d with
    | cons h1 d =>
      cases d with
      | cons h2 d =>
        cases d
        obtain ⟨p, rfl, ep⟩ := dd_pair h1
        obtain ⟨p2, rfl, ep2⟩ := dd_pair h2
        refine .inr ⟨p, p2, a, b, c, e, rfl, ⟨SqT.of ep, SqT.of ep2⟩, k _ H _ r.self ?_ q⟩
        cases ltP a b c e with
        | true => exact h2
        | false => exact h1
theorem sn_minP : SN f (rMinP K) dMinP := fun L σ H ρ vs xs Q R r d q k => by
  rcases q with q | ⟨a, b, c, e, rfl, q⟩
  · exact .inl (sn_min2 L σ H ρ vs xs Q R r d q k)
  · cases d with
    | cons h1 d =>
      cases d with
      | cons h2 d =>
        cases d
        obtain ⟨p, rfl, ep⟩ := dd_pair h1
        obtain ⟨p2, rfl, ep2⟩ := dd_pair h2
        refine .inr ⟨p, p2, a, b, c, e, rfl, ⟨SqT.of ep, SqT.of ep2⟩, k _ H _ r.self ?_ q⟩
        cases ltP c e a b with
        | true => exact h2
        | false => exact h1
theorem lex_pair (a b c d : Int) : HT.lexLt [a, b] [c, d] = ltP a b c d := by
  unfold ltP
  rw [HT.lexLt_cons, HT.lexLt_cons]
  by_cases h : a = c
  · rw [if_pos h, if_pos h]
    by_cases g : b = d
    · subst g
      simp [HT.lexLt]
    · rw [if_neg g]
  · rw [if_neg h, if_neg h]
/-- < of integers, and of pairs -/
def rLtP (K : PySem.W.Frag) : R2 := fun x y H Q => (rI0 fun i j => .bl (decide (i < j))) x y H Q ∨ rLtT K x y H Q
theorem op_ltP {X : Cx} (hu : X.A.units < cLine) : OpR X (compareOp .Lt) (rLtP X.K) := op_lt.or (op_ltT hu)
def dLtP : R2d := fun x y Q => (rdI0 fun i j => .bool (decide (i < j))) x y Q ∨ ∃ a b c d, x = prD a b ∧ y = prD c d ∧ Q (.bool (ltP a b c d))
theorem s2_ltP : S2 f (rLtP K) dLtP := fun L σ H ρ v u x y Q R r dx dy q k => by
  rcases q with q | ⟨a, b, c, d, rfl, rfl, q⟩
  · exact .inl (s2_lt L σ H ρ v u x y Q R r dx dy q k)
  · obtain ⟨p, rfl, ep⟩ := dd_pair dx
    obtain ⟨p2, rfl, ep2⟩ := dd_pair dy
    refine .inr ⟨p, p2, [a, b], [c, d], rfl, rfl, SqT.of ep, SqT.of ep2, ?_⟩
    rw [lex_pair]
    exact k _ H _ r.self (.bl _) q
/-- bool(i) -/
def rBool1 : List V → Hp → VK → Prop := fun xs H Q => (∃ i, xs = [.int i] ∧ Q (.bl (i != 0)) H) ∨ ∃ k, xs = [.bl k] ∧ Q (.bl k) H
theorem cr_bool1 {X : Cx} : CallR X (.type "bool") rBool1 := call_bool1
def dBool1 : RNd := fun xs Q => onOne xs fun x => byD x (i := fun i => Q (.bool (i != 0))) (b := fun b => Q (.bool b))
theorem sn_bool1 : SN f rBool1 dBool1 := fun L σ H ρ vs xs Q R r d q k => by
  replace q := inv_one q
  obtain ⟨x, rfl, q⟩ := q
  cases d with
  | cons a b =>
    cases b
    cases a with
    | int i => exact .inl ⟨i, rfl, k _ H _ r.self (.bl _) q⟩
    | bl i => exact .inr ⟨i, rfl, k _ H _ r.self (.bl _) q⟩
    | _ => exact q.elim
end
end Ey
/-! displays of dicts, as data -/
namespace Ey
open PySem PySem.Spec PyProof.Rows L2
def hide1 : Sl → Sl
  | .own _ => .any
  | s => s
def hide (ρ : Env) : Env := ρ.map hide1
/-- f, from here on, with one place that is no data's -/
def Fx.but (f : Fx) (L : List Addr) (H : Hp) (p : Addr) : Fx := ⟨H, fun b => Fr f L b ∧ b ≠ p, f.D, f.cl, f.E, f.Ed⟩
section
variable {f : Fx} {L : List Addr} {σ : L2.St} {H H' : Hp} {ρ : Env}
theorem but_go {p : Addr} {H0 : Hp} (g : Go (f.but L H0 p) H H') : Go f H H' := ⟨g.kp, g.dk⟩
theorem Rel.hide (r : Rel f L σ H ρ) {p : Addr} {o : HO} (np : H p = none) : Rel (f.but L (upd H p o) p) [] σ (upd H p o) (Ey.hide ρ) := by
  have g0 : Go f H (upd H p o) := r.new np
  have free : ∀ b, (upd H p o) b = none → b ≠ p ∧ H b = none := fun b e => by
    have nb : b ≠ p := fun z => by
      rw [z, upd_same] at e
      cases e
    rw [upd_ne nb] at e
    exact ⟨nb, e⟩
  refine ⟨⟨fun b e => ⟨r.opn (free b e).2, (free b e).1⟩, fun b h => r.ok.off b h.1.1, g0.dk, fun c x a v H' e g n e2 d => ?_⟩, Go.refl g0.dk, (by unfold Ey.hide; rw [List.length_map]; exact r.len), fun a h => (by cases h), fun i s e => ?_, fun i j xs ys e _ _ => ?_⟩
  · exact r.ok.ex c x a v H' e (r.go.trans (g0.trans (but_go g))) (r.fresh (free a n).2) e2 (d.imp fun _ _ _ h => h.1.1)
  · unfold Ey.hide at e
    rw [List.getElem?_map] at e
    cases es : ρ[i]? with
    | none => rw [es] at e; cases e
    | some s0 =>
      rw [es] at e
      cases e
      obtain ⟨w, ew, q⟩ := r.sl i s0 es
      refine ⟨w, ew, ?_⟩
      cases s0 with
      | any => trivial
      | own xs => trivial
      | dk => exact q
      | d x =>
        obtain ⟨v, e1, d⟩ := q
        refine ⟨v, e1, (d.imp (G := Fr (f.but L (upd H p o) p) []) fun a u ea h => ⟨⟨h, ne_of_none ea np⟩, fun m => by cases m⟩).keep fun a u ea _ => ?_⟩
        rw [upd_ne (ne_of_none ea np)]
        exact ea
  · unfold Ey.hide at e
    rw [List.getElem?_map] at e
    cases es : ρ[i]? with
    | none => rw [es] at e; cases e
    | some s0 =>
      rw [es] at e
      cases s0 <;> cases e
end
/-! the pairs -/
abbrev KD := List (Ky × PyData)
def dpNil : Env → (KD → Prop) → Prop := fun _ Q => Q []
def dpCons (k : Ky) (t : DE) (u : Env → (KD → Prop) → Prop) : Env → (KD → Prop) → Prop := fun ρ Q => t ρ fun x => u ρ fun ks => Q ((k, x) :: ks)
def SPs (f : Fx) (trs : List (TE × TE)) (t : Env → (KD → Prop) → Prop) : Prop := ∀ (L : List Addr) (σ : L2.St) (H : Hp) (ρ : Env) (Q : KD → Prop) (R : List (V × V) → Hp → Prop), Rel f L σ H ρ → t ρ Q →
  (∀ (kvs : List (Ky × V)) H' (ks : KD), Go f H H' → kvs.map (·.1) = ks.map (·.1) → DdAll (Fr f L) H' (kvs.map (·.2)) (ks.map (·.2)) → Q ks → R (kvs.map fun kv => (kV kv.1, kv.2)) H') → tPairs trs σ H R
section
variable {f : Fx} {te : TE} {t : DE} {trs : List (TE × TE)} {u : Env → (KD → Prop) → Prop}
theorem sps_nil : SPs f [] dpNil := fun L σ H ρ Q R r q k => k [] H [] r.self rfl .nil q
theorem sps_cons {k : Ky} (h : SE f te t) (hr : SPs f trs u) : SPs f ((tC (kV k), te) :: trs) (dpCons k t u) := fun L σ H ρ Q R r q c =>
  h L σ H ρ _ _ r q fun v H1 x g d q => hr L σ H1 ρ _ _ (r.mv g) q fun kvs H2 ks g2 e ds q => c ((k, v) :: kvs) H2 ((k, x) :: ks) (g.trans g2) (by rw [List.map_cons, List.map_cons, e]) (.cons ((r.mv g).dd g2 d) ds) q
theorem merge_new : ∀ {more acc : List (Ky × V)}, ((acc ++ more).map (·.1)).Nodup → mergeK acc more = acc ++ more
  | [], acc, _ => by simp [mergeK]
  | (k, v) :: more, acc, h => by
    have n : ¬ (acc.any fun kv => decide (kv.1 = k)) = true := fun z => by
      rw [List.any_eq_true] at z
      obtain ⟨kv, m, e⟩ := z
      rw [List.map_append, List.nodup_append] at h
      exact h.2.2 kv.1 (List.mem_map.mpr ⟨kv, m, rfl⟩) k (by simp) (of_decide_eq_true e)
    have e : putK acc k v = acc ++ [(k, v)] := by
      unfold putK
      rw [if_neg n]
    show mergeK (putK acc k v) more = _
    rw [e, merge_new (by simpa using h)]
    simp
def dDisp (u : Env → (KD → Prop) → Prop) : DE := fun ρ Q => u (hide ρ) fun ks => (ks.map (·.1)).Nodup ∧ ks.length ≤ 15 ∧ Q (.dict (ks.map fun kd => (kD kd.1, kd.2)))
theorem zip_fst : ∀ {kvs : List (Ky × V)} {ks : KD}, kvs.map (·.1) = ks.map (·.1) → (kvs.map fun kv => kD kv.1).zip (ks.map (·.2)) = ks.map fun kd => (kD kd.1, kd.2)
  | [], [], _ => rfl
  | (a, v) :: kvs, (b, x) :: ks, h => by
    rw [List.map_cons, List.map_cons] at h
    injection h with h1 h2
    subst h1
    rw [List.map_cons, List.map_cons, List.map_cons, List.zip_cons_cons, zip_fst h2]
theorem se_disp (h : ∀ g, SPs g trs u) : SE f (tDisp trs) (dDisp u) := fun L σ H ρ Q R r q k p np => by
  have r0 := r.hide (o := .dK []) np
  have g0 : Go f H (upd H p (.dK [])) := r.new np
  have offp : f.off p := fun d l ed => deck_some (r.deck d l ed) np
  refine h _ [] σ _ _ _ _ r0 q fun kvs H2 ks g e ds q => ?_
  have g1 := but_go g
  have e2 : H2 p = some (.dK []) := g1.kp p _ upd_same offp
  have len : kvs.length = ks.length := by
    have z := congrArg List.length e
    rwa [List.length_map, List.length_map] at z
  refine ⟨e2, kvs, rfl, by rw [len]; exact q.2.1, ?_⟩
  have m : mergeK [] kvs = kvs := merge_new (acc := []) (by rw [List.nil_append, e]; exact q.1)
  rw [m]
  refine k _ _ _ ⟨fun a o ea n => ?_, fun d l ed => ?_⟩ ?_ q.2.2
  · rw [upd_ne (ne_of_none ea np)]
    exact (g0.trans g1).kp a o ea n
  · obtain ⟨ns, m', k', h1, h2, h3⟩ := ((g0.trans g1).dk d l ed).ex
    obtain ⟨n1, n2⟩ := offp d l ed
    exact ⟨ns, m', k', h1, by rw [upd_ne n1.symm]; exact h2, by rw [upd_ne n2.symm]; exact h3⟩
  · rw [← zip_fst e]
    refine .dic (r.opn np) upd_same ?_
    have dz : DdAll (fun b => Fr f L b ∧ b ≠ p) H2 (kvs.map (·.2)) (ks.map (·.2)) := ds.imp fun a o _ h => h.1
    have dk := dz.keep (H' := upd H2 p (.dK kvs)) fun a o ea h => by
      have na : a ≠ p := by
        rcases h with h | ⟨ys, rfl⟩
        · exact h.2
        · intro z
          rw [z, e2] at ea
          cases ea
      rw [upd_ne na]
      exact ea
    exact dk.imp fun a o _ h => h.1
end
end Ey
/-! found.append(left.pop(i)) -/
namespace Ey
open PySem PySem.Spec PyProof.Rows L2
section
variable {X : Cx} {K : PySem.W.Frag} (hK : X.K = K) {a e : Expr} {ta te : TE}
include hK
theorem qe_popAt {p1 p2 : Pos} (ho : PE X a ta) (he : PA X [e] (tCons te tNil)) (base : attributeBase a "pop" X.env (eval a X.env) = eval a X.env := by rfl)
    (few : ((backTo p2 (starEach [e] X.env)).all (fun x => !x.1) && (backToKw p2 (keywordEach [] X.env)).all (fun x => x.1.isSome) && decide ([e].length + ([] : List Keyword).length + (if ([] : List Keyword).isEmpty then 0 else 1) < 30)) = true := by rfl)
    (line : (p1.endLine == p2.line) = true := by rfl) (star : starEach [e] X.env = (false, eval e X.env) :: starEach [] X.env := by rfl) (plain : (backTo p2 (starEach [] X.env)).any (·.1) = false := by rfl) :
    PE X (.Call (.Attribute a "pop" p1) [e] [] p2) (tBM K "list" rPopAt ta (tCons te tNil)) := by
  subst hK
  exact pe_bm PySem.F.plainAttrs_list PySem.F.slot_list_pop PySem.F.type_list_pop mt_popAt ho he base few line star plain
end
def dAppPop (i j : Nat) (t : DE) : DS := fun D ρ => onOwn ρ[i]? fun xs => xs.length < 100000 ∧ onOwn ρ[j]? fun ys => i ≠ j ∧ ys.length < 100000 ∧ t ρ fun z => onInt z fun n => 0 ≤ n ∧ onSome ys[n.toNat]? fun y =>
  D.nx ((ρ.set j (.own (ys.eraseIdx n.toNat))).set i (.own (xs ++ [y])))
theorem dds_erase {F : Addr → Prop} {H : Hp} : ∀ {vs : List V} {xs : List PyData} (n : Nat), DdAll F H vs xs → DdAll F H (vs.eraseIdx n) (xs.eraseIdx n)
  | _, _, _, .nil => .nil
  | _, _, 0, .cons _ r => r
  | _, _, n + 1, .cons h r => .cons h (dds_erase n r)
theorem six {n : Int} {k : Nat} (h0 : 0 ≤ n) (h : n.toNat < k) : seqIndex? n k = some n.toNat := by
  unfold seqIndex?
  have z : n < (k : Int) := by omega
  simp [h0, z, Int.not_lt.mpr h0]
section
variable {f : Fx} {ta : TE} {da : DE}
theorem ss_appPop {K : PySem.W.Frag} {i j : Nat} (h : SE f ta da) : SS f (tDrop (tBM K "list" rAppend (tVar i) (tCons (tBM K "list" rPopAt (tVar j) (tCons ta tNil)) tNil))) (dAppPop i j da) := fun L σ H ρ D E r q o => by
  replace q := inv_own q
  obtain ⟨xs, e0, hl, q⟩ := q
  replace q := inv_own q
  obtain ⟨ys, e1, ne, hy, q⟩ := q
  obtain ⟨a, vs, es, m, ea, d0⟩ := own_at r e0
  obtain ⟨b, ws, es1, m1, eb, d1⟩ := own_at r e1
  have nab : a ≠ b := fun z => by
    subst z
    exact ne (r.inj i j _ _ e0 e1 (es.trans es1.symm))
  refine ⟨.ref a, es, .inl ⟨rfl, vs, SqL.of ea⟩, ?_⟩
  refine ⟨.ref b, es1, .inl ⟨rfl, ws, SqL.of eb⟩, h L σ H ρ _ _ r q fun v H1 x g dx q => ?_⟩
  replace q := inv_int q
  obtain ⟨n, rfl, hn, q⟩ := q
  replace q := inv_some q
  obtain ⟨y, ey, q⟩ := q
  cases dx
  have lt : n.toNat < ys.length := (List.getElem?_eq_some_iff.mp ey).1
  have ea1 := g.kp a _ ea (r.own_off m)
  have eb1 := g.kp b _ eb (r.own_off m1)
  have r1 := r.mv g
  have z1 := r.dds g d1
  have z0 := r.dds g d0
  obtain ⟨w, ew, dw⟩ := dds_get z1 ey
  obtain ⟨r2, t2⟩ := r1.mut e1 es1 m1 eb1 (dds_erase n.toNat z1)
  have len : ws.length = ys.length := d1.length
  refine ⟨b, ws, n, n.toNat, w, rfl, rfl, eb1, by omega, by omega, by rw [len]; exact six hn lt, ew, ?_⟩
  have e02 : (ρ.set j (.own (ys.eraseIdx n.toNat)))[i]? = some (.own xs) := by
    rw [List.getElem?_set_ne ne.symm]
    exact e0
  have ea2 : (upd H1 b (.lst (ws.eraseIdx n.toNat))) a = some (.lst vs) := by
    rw [upd_ne nab]
    exact ea1
  refine ⟨a, vs, w, rfl, rfl, ea2, by rw [d0.length]; exact Nat.lt_trans hl (by decide), ?_⟩
  obtain ⟨r3, t3⟩ := r2.mut e02 es m ea2 (dds_app (t2.dds r1 z0) (.cons (t2.dd r1 dw) .nil))
  exact o.nx L σ _ _ ((Tr.of g).trans g.dk (t2.trans r2.deck t3)) r3 q
end
end Ey
namespace Ey
open PySem PySem.Spec PyProof.Rows L2
section
variable {X : Cx} {K : PySem.W.Frag} (hK : X.K = K)
theorem un1 {A : Around} (h : A.units + 64 < cLine) : A.in1.units < cLine := by
  rw [units_in1]
  omega
include hK
theorem qc_maxP (hc : X.calm = true) (hu : X.A.units + 64 < cLine) : CallR X (.builtin "max") (rMaxP K) := by subst hK; exact cr_maxP hc (un1 hu)
theorem qc_minP (hc : X.calm = true) (hu : X.A.units + 64 < cLine) : CallR X (.builtin "min") (rMinP K) := by subst hK; exact cr_minP hc (un1 hu)
theorem qo_ltP (hu : X.A.units + 64 < cLine) : OpR X (compareOp .Lt) (rLtP K) := by subst hK; exact op_ltP (by omega)
end
section
variable {X : Cx} {f : Fx}
/-- a sign in a string -/
def rSgn (g : Bool → Bool) : R2 := fun x y H Q => ∃ (c : Nat) (z : Str), x = .str ⟨#[c]⟩ ∧ y = .str z ∧ Q (.bl (g (decide (c ∈ z.cps.toList)))) H
theorem qo_sign : OpR X (compareOp .In) (rSgn id) := op_in_sign
theorem qo_nsign : OpR X (compareOp .NotIn) (rSgn not) := op_notIn_sign
def dSgn (g : Bool → Bool) : R2d := fun x y Q => onStr y fun z => ∃ c : Nat, x = .str ⟨#[c]⟩ ∧ Q (.bool (g (decide (c ∈ z.cps.toList))))
theorem s2_sgn {g : Bool → Bool} : S2 f (rSgn g) (dSgn g) := fun L σ H ρ v u x y Q R r dx dy q k => by
  replace q := inv_str q
  obtain ⟨z, rfl, c, rfl, q⟩ := q
  cases dx
  cases dy
  exact ⟨c, z, rfl, rfl, k _ H _ r.self (.bl _) q⟩
end
end Ey
/-! t[i], t also a string -/
namespace Ey
open PySem PySem.Spec PyProof.Rows L2
section
variable {f : Fx} {K : PySem.W.Frag}
def dIxA : R2d := fun x y Q => dIxF x y Q ∨ ∃ (z : Str) (i : Int) (c : Nat), x = .str z ∧ y = .int i ∧ z.length ≤ 100000 ∧ atI z.cps.toList i = some c ∧ Q (.str ⟨#[c]⟩)
theorem s2_ixA : S2 f (rIx K) dIxA := fun L σ H ρ v u x y Q R r dx dy q k => by
  rcases q with q | ⟨z, i, c, rfl, rfl, hl, e, q⟩
  · exact s2_ix L σ H ρ v u x y Q R r dx dy q k
  · cases dx
    cases dy
    exact .inr (.inr ⟨z, i, c, rfl, rfl, Nat.le_trans hl (by decide), e, k _ H _ r.self (.str _) q⟩)
end
end Ey
/-! ### set(xs) of a list of strings or integers, and how many it has -/
namespace Ey
open PySem PySem.Spec PyProof.Rows L2 PpSet
theorem uniq_snoc : ∀ (ks A : List Ky) (k : Ky), uniq A (ks ++ [k]) = addU (uniq A ks) k
  | [], _, _ => rfl
  | j :: ks, A, k => uniq_snoc ks (addU A j) k
abbrev OfU (P : Program) (w : World) (h : Heap) (a : Addr) (A : List Ky) : Prop := h.SetOf (mixKind P w) a (hasU A) A.length
theorem OfU.mv {P : Program} {w : World} {h g : Heap} {a : Addr} {A : List Ky} (z : OfU P w h a A) (k : ∀ o, h.get? a = some o → g.get? a = some o) : OfU P w g a A := setOf_at z k
theorem of_congr {P : Program} {w : World} {h : Heap} {a : Addr} {S S' : Ky → Bool} {n n' : Nat} (z : h.SetOf (mixKind P w) a S n) (e : ∀ k, S k = S' k) (en : n = n') : h.SetOf (mixKind P w) a S' n' := by
  obtain rfl : S = S' := funext e
  subst en
  exact z
theorem OfU.add {P : Program} {w : World} {h : Heap} {a : Addr} {A : List Ky} {k : Ky} (z : h.SetOf (mixKind P w) a (fun j => hasU A j || decide (j = k)) (if hasU A k then A.length else A.length + 1)) : OfU P w h a (addU A k) := by
  refine of_congr z (fun j => ?_) ?_
  · unfold addU
    cases e : hasU A k with
    | true =>
      rw [if_pos rfl]
      by_cases h : j = k
      · rw [h, e, Bool.true_or]
      · rw [decide_eq_false h, Bool.or_false]
    | false =>
      rw [if_neg (by decide)]
      unfold hasU
      rw [List.any_append]
      congr 1
      simp [eq_comm]
  · unfold addU
    cases e : hasU A k with
    | true => rfl
    | false =>
      rw [if_neg (by decide), if_neg (by decide), List.length_append]
      rfl
section
variable {P : Program} {w : World} {A : Around} {E : Value → Shared → Prop}
theorem loopU {I D : Addr} {fp wr : List Addr} {G : Array GenState → Array GenState → Prop} {n : Nat} {Pv : Nat → Value → Prop} {St : Nat → Shared → Prop} {R : Result → Shared → Prop} (W : WalksS P w A.in1 I fp wr G n Pv St) (nD : D ∉ fp)
    (ks : List Ky) (hn : n = ks.length) (few : ks.length + 1 < scanBound) (val : ∀ i v, Pv i v → ∃ k, ks[i]? = some k ∧ RelV (kV k) v) : ∀ (m i : Nat) (z : Shared), n - i = m → i ≤ n → St i z → OfU P w z.heap D (uniq [] (ks.take i)) →
    (∀ z', Moved (D :: wr) G z z' → OfU P w z'.heap D (uniq [] ks) → R (.ok (.ret .none)) z') → codeAny (model P w) A (.builtin "set.update.loop" ⟨[.ref D, .ref I], []⟩) R z := by
  have out : D ∉ wr := fun x => nD (W.sub _ x)
  have more : ∀ b ∈ wr, b ∈ D :: wr := fun _ h => .tail _ h
  intro m
  induction m with
  | zero =>
    intro i z e hi st u fin
    obtain rfl : i = n := by omega
    refine codeAny_builtin F.entry_set_update_loop ?_; rw [Around.under_plainId F.plain_set_update_loop _]
    change wpAny _ A.in1 (pyNext (.ref I) >>= _) _ _ z
    refine wpAny_bind (W.done z _ _ st fun z' mv => ?_); change wpAny _ A.in1 (ret Value.none) _ _ z'
    rw [hn, List.take_length] at u
    exact wpAny_pure (fin z' (mv.mono more) (u.mv fun o h => mv.heap D o out h))
  | succ m go =>
    intro i z e hi st u fin
    have lt : i < n := by omega
    refine codeAny_builtin F.entry_set_update_loop ?_; rw [Around.under_plainId F.plain_set_update_loop _]
    change wpAny _ A.in1 (pyNext (.ref I) >>= _) _ _ z
    refine wpAny_bind (W.item i z _ _ lt st fun v z' pv st2 mv => ?_)
    obtain ⟨k, ek, rk⟩ := val i v pv
    have u2 : OfU P w z'.heap D (uniq [] (ks.take i)) := u.mv fun o h => mv.heap D o out h
    have room : (uniq [] (ks.take i)).length + 1 < scanBound := by
      have a := uniq_le (ks.take i) []
      have b := List.length_take_le i ks
      have c : ([] : List Ky).length = 0 := rfl
      omega
    change wpAny _ A.in1 (holding [v] (setAdd D v) >>= _) _ _ z'
    refine wpAny_bind (wpAny_holding ?_); unfold setAdd
    refine wpAny_holding ?_; refine wpAny_bind ((mixKind P w).pyHash (k := k) (kV_is rk) ?_)
    refine wpAny_setAddHashed_of (knd := mixKind P w) (s := { z' with toks := z'.toks + 1 }) (kV_is rk) (key_scan rk) u2 room fun g sb u3 => ?_
    have u4 : OfU P w g D (uniq [] (ks.take (i + 1))) := by
      rw [List.take_add_one, ek, Option.toList_some, uniq_snoc]
      exact OfU.add u3
    refine wpAny_pure ⟨plainId_quiet F.plain_set_update_loop _, go (i + 1) _ (by omega) lt (W.frame _ z' _ _ st2 (Nat.le_succ _) fun b hb o h => ?_) u4 fun z2 mv2 u5 => ?_⟩
    · exact (sb.2 b fun q => nD (q ▸ hb)).trans h
    · refine fin z2 (Moved.trans W.gtrans ((mv.mono more).then_heap (Nat.le_succ _) fun b o hb h => ?_) mv2) u5
      exact (sb.2 b fun q => hb (q ▸ List.mem_cons_self)).trans h
abbrev nSet (led : Bool) : Obj := { cls := .type "set", dict := none, data := .set #[] 0 (.fresh 0 0 led) }
theorem val_at {ks : List Ky} {us : List Value} (r : Vals (ks.map kV) us) (i : Nat) (v : Value) (h : us[i]? = some v) : ∃ k, ks[i]? = some k ∧ RelV (kV k) v := by
  induction ks generalizing us i with
  | nil =>
    cases r
    cases h
  | cons k ks ih =>
    cases r with
    | cons a b =>
      cases i with
      | zero =>
        cases h
        exact ⟨k, rfl, a⟩
      | succ i => exact ih b i h
set_option maxHeartbeats 3200000 in
theorem call_setU {s : Shared} {l : Addr} {its : Array Value} {ks : List Ky} {Q : Value → Shared → Prop} (calm : A.handled = none) (il : s.heap.IsList l its) (vs : Vals (ks.map kV) its.toList) (few : ks.length + 1 < scanBound)
    (q : ∀ (g : Heap) (tk : Nat), OfU P w g s.heap.objs.size (uniq [] ks) → (∀ b o, b < s.heap.objs.size → s.heap.get? b = some o → g.get? b = some o) → Q (.ref s.heap.objs.size) { s with heap := g, toks := tk }) : wpAny (model P w) A (call (.type "set") [.ref l]) Q E s := by
  obtain ⟨_, _, mro⟩ := F.called_set.mro; have made := F.called_set.made; have sub := F.called_set.sub
  refine wpAny_call (codeAny_of_tree ?_); change wpAny _ _ (callAny (.type "set") _) _ _ _
  refine wpAny_pure ⟨Code.quiet_builtin _ (by decide +kernel), codeAny_builtin F.entry_type_call ?_⟩; rw [Around.under_plain (weight_type_call_type "set" [.ref l] []) rfl]
  have no := F.called_set.notType; have may := F.called_set.canCreate; have okc := F.typeCall_set_1 (.ref l)
  repeat any_goals first | assumption | wp_step
  refine codeAny_mono (code_set_new_1 (.ref l) (E := E) (Q₁ := fun o z => ∃ led : Bool, o = .ref s.heap.objs.size ∧ z = { s with heap := s.heap.push (nSet led) }) fun led => ⟨led, rfl, rfl⟩) fun r z hz => ?_
  cases r with
  | error e => exact hz
  | ok fl =>
    cases fl with
    | ret obj =>
      obtain ⟨led, rfl, rfl⟩ := hz
      have here : (s.heap.push (nSet led)).get? s.heap.objs.size = some (nSet led) := Heap.get?_push_size _ rfl
      have ty : Shared.TypeIs { s with heap := s.heap.push (nSet led) } (.ref s.heap.objs.size) "set" := ⟨_, here, rfl⟩
      have lk := F.called_set.init.lookup; have bd := F.called_set.init.bind (.ref s.heap.objs.size)
      repeat any_goals first | assumption | wp_step
      refine codeAny_mono (codeAny_call_builtin (R := wants (fun r z => r = .none ∧ ∃ g tk, z = { s with heap := g, toks := tk } ∧ OfU P w g s.heap.objs.size (uniq [] ks) ∧ (∀ b o, b < s.heap.objs.size → s.heap.get? b = some o → g.get? b = some o)) E)
        F.called_set.init.plain F.entry_set_init (check_set_init_1 ty ?_)) fun r2 z2 h2 => ?_
      · obtain ⟨⟨oc, od, oda, osl⟩, at_l, rfl, nl, rfl⟩ := il
        have at_l' : (s.heap.push (nSet led)).get? l = some { cls := .type "list", dict := od, data := .seq its nl, slots := osl } := Heap.get?_push_of_some _ at_l
        have x1 := F.sub_list_set; have x2 := F.sub_list_frozenset
        have x3 : (Value.type "list" == Value.type "dict") = false := by decide
        have il' : (s.heap.push (nSet led)).IsList l its := ⟨_, at_l', rfl, nl, rfl⟩
        unfold Builtin.«set.__init__»
        unfold noKeywords Builtin.Frozenset.updateFrom
        generalize ep : pyIter = PY
        wp_walk
        subst ep
        refine wpAny_pyIter_list il' ?_; refine wpAny_bind (wpAny_runValue ?_)
        have below : l < s.heap.objs.size := Heap.lt_size at_l
        have calm3 : A.in1.in1.in1.handled = none := by simp [calm]
        have ne : l ≠ (s.heap.push (nSet led)).objs.size := by
          rw [Heap.size_push]
          exact Nat.ne_of_lt (Nat.lt_trans below (Nat.lt_succ_self _))
        have nf : s.heap.objs.size ∉ [(s.heap.push (nSet led)).objs.size, l] := by
          rw [Heap.size_push]
          intro h
          rcases List.mem_cons.mp h with h | h
          · exact Nat.lt_irrefl _ (Nat.lt_of_lt_of_eq (Nat.lt_succ_self _) h.symm)
          · exact Nat.lt_irrefl _ (Nat.lt_of_lt_of_eq below (List.mem_singleton.mp h))
        have sz : its.size = ks.length := by rw [← Array.length_toList, ← vs.length, List.length_map]
        refine loopU ((Walks.list calm3 _ l ne its).toS) (D := s.heap.objs.size) nf ks sz few (fun i v hv => val_at vs i v (by rw [Array.getElem?_toList]; exact hv)) (its.size - 0) 0 _ (by omega) (Nat.zero_le _)
          ⟨⟨_, Heap.get?_push_size _ rfl, rfl, rfl⟩, (il'.push _)⟩ ?start ?fin
        case start =>
          have g0 : ((s.heap.push (nSet led)).push { cls := .type "list_iterator", data := .fields #[.ref l, .int 0 0] }).get? s.heap.objs.size = some (nSet led) := Heap.get?_push_of_some _ here
          refine ⟨_, #[], 0, _, g0, ⟨rfl, rfl, rfl⟩, rfl, ?_, by simp [uniq, hasU], by decide, by rfl, rfl⟩
          intro e he
          simp at he
        case fin =>
          rintro ⟨g, g2, d2, tk2, os2⟩ mv u
          obtain rfl : g2 = s.gens := mv.gens
          obtain rfl : d2 = s.drawn := mv.drawn
          obtain rfl : os2 = s.os := mv.os
          change wpAny _ _ _ _ _ _
          refine wpAny_pure ?_; change wpAny _ _ (ret Value.none) _ _ _
          refine wpAny_pure ⟨rfl, g, tk2, rfl, u, fun b o lt h => mv.heap b o ?_ (Heap.get?_push_of_some _ (Heap.get?_push_of_some _ h))⟩
          rw [Heap.size_push]
          intro m
          rcases List.mem_cons.mp m with m | m
          · exact Nat.lt_irrefl _ (Nat.lt_of_le_of_lt (Nat.le_of_eq m.symm) lt)
          · exact Nat.lt_irrefl _ (Nat.lt_of_le_of_lt (Nat.le_of_eq (List.mem_singleton.mp m).symm) (Nat.lt_trans lt (Nat.lt_succ_self _)))
      · cases r2 with
        | error e => exact h2
        | ok fl2 =>
          cases fl2 with
          | ret r =>
            obtain ⟨rfl, g, tk, rfl, u, kp⟩ := h2
            repeat any_goals first | assumption | wp_step
            exact q _ _ u kp
          | _ => exact h2.elim
    | _ => exact hz.elim
end
section
variable {X : Cx}
def rSetOfU (K : PySem.W.Frag) (P : Program) (w : World) : List V → Hp → VK → Prop := fun xs H Q => ∃ (l : Addr) (ks : List Ky), xs = [.ref l] ∧ SqL K H l (ks.map kV) ∧ ks.length ≤ 4000 ∧ ∀ p, H p = none → Q (.ref p) (upd H p (SetU P w p (uniq [] ks)))
theorem cr_setOfU (hc : X.calm = true) : CallR X (.type "set") (rSetOfU X.K X.prog X.w) := by
  intro ps s σ H vs us Q I r h
  obtain ⟨l, ks, rfl, hs, few, q⟩ := h
  obtain ⟨its, rv, il, _⟩ := I.list hs
  rw [Vals.ref1 r]
  refine call_setU (I.ok.hd hc) il.isList (by simpa using rv) (Nat.lt_of_le_of_lt (Nat.succ_le_succ few) (by decide)) fun g tk u kp => ?_
  have n0 : H s.heap.objs.size = none := I.hok.fresh (Nat.le_refl _)
  have u' : g.SetOf (mixKind X.prog X.w) s.heap.objs.size (hasU (uniq [] ks)) (uniq [] ks).length := u
  exact ⟨.ref _, _, I.laid (t' := tk) (fun b o e => kp b o (Heap.lt_size e) e) (Nat.le_refl _) (setK_new u'), rfl, q _ n0⟩
end
/-- len(set(xs)) -/
def dLenSetU (t : DE) : DE := fun ρ Q => t ρ fun x => onLst x fun xs => xs.length ≤ 4000 ∧ ∃ ks : List Ky, xs = ks.map kD ∧ Q (.int ((uniq [] ks).length : Nat))
theorem keys_of {F : Addr → Prop} {H : Hp} : ∀ {vs : List V} {ks : List Ky}, DdAll F H vs (ks.map kD) → vs = ks.map kV
  | _, [], h => by
    cases h
    rfl
  | _, k :: ks, h => by
    cases h with
    | cons a b =>
      rw [keys_of b, List.map_cons]
      congr 1
      cases k <;> (cases a; rfl)
theorem se_lenSetU {f : Fx} {P : Program} {w : World} {K : PySem.W.Frag} {te : TE} {t : DE} (h : SE f te t) : SE f (tCB (rLenU P w) (tCons (tCB (rSetOfU K P w) (tCons te tNil)) tNil)) (dLenSetU t) := fun L σ H ρ Q R r q k =>
  h L σ H ρ _ _ r q fun v H1 x g d q => by
    replace q := inv_lst q
    obtain ⟨xs, rfl, hl, ks, rfl, q⟩ := q
    cases d with
    | lst fa e c =>
      have z := keys_of c
      subst z
      rw [List.length_map] at hl
      exact ⟨_, ks, rfl, SqL.of e, hl, fun p np => ⟨p, _, rfl, upd_same, k _ _ _ (g.new np) (.int _) q⟩⟩
end Ey
/-! ### calls without arguments, max of a list, own lists given up behind a statement, what is never called -/
namespace Ey
open PySem PySem.Spec PyProof.Rows L2
section
variable {w : World} {P : Program} {K : PySem.W.Frag} {mg : Str → Option Value} {base : Heap}
theorem pe_cl0 {X : Cx} {CX : CXT} {k : Nat} {x : Str} {ps : List Str} {sp : Sp} {E : XK} {p pos : Pos} (G : Fk X.prog X.w X.K X.mg X.base CX k x ps sp) (hr : Room k X.A) (hg : Gl X x) (hx : Passes CX X E) (hdb : (x == ("__debug__" : Str)) = false := by decide) :
    PE X (.Call (.Name x p) [] [] pos) (tCall sp [] E tNil) := by
  obtain ⟨f, fd, a, b, c, d⟩ := G.ex
  exact pe_call0 a hr hg c d.1 b .nil hx hdb
/-- a def as deep as it is never called -/
theorem fk_never {x : Str} {st : Stmt} {k : Nat} {ps : List Str} {kk : Bool} {cl : Str → Addr} {m : Md} (S : At K mg x st) (B : ∀ f fd, Fun K x x st f fd → Binds K fd ps []) (hm : ∀ ds Q E, ¬ m ds Q E) : Fk P w K mg base CX0 k x ps (spD kk cl m) := by
  obtain ⟨f, fd, F, g⟩ := S.ex
  have no : ∀ vs H Q E, ¬ spD kk cl m vs H Q E := fun vs H Q E h => by
    obtain ⟨f, ds, Qd, us, _, _, _, _, _, _, q, _⟩ := h
    exact hm _ _ _ q
  exact ⟨f, fd, ⟨fun _ _ _ _ h => (no _ _ _ _ h).elim, fun _ _ _ _ _ _ _ _ _ _ _ _ _ h => (no _ _ _ _ h).elim⟩, B f fd F, g, F.kp, fun_lk F⟩
end
theorem qc_maxL {X : Cx} {K : PySem.W.Frag} (hK : X.K = K) (hc : X.calm = true) : CallR X (.builtin "max") (rMax K) := by
  subst hK
  exact cr_max hc
theorem qc_setOfU {X : Cx} {K : PySem.W.Frag} (hK : X.K = K) (hc : X.calm = true) : CallR X (.type "set") (rSetOfU K X.prog X.w) := by
  subst hK
  exact cr_setOfU hc
def dMaxL : RNd := fun xs Q => ∃ ns : List Int, xs = [.list (ns.map .int)] ∧ 0 < ns.length ∧ ∀ m, m ∈ ns → (∀ y ∈ ns, y ≤ m) → Q (.int m)
section
variable {f : Fx} {t : TS} {d : DS}
theorem dds_int {F : Addr → Prop} {H : Hp} : ∀ {vs : List V} {ns : List Int}, DdAll F H vs (ns.map .int) → vs = ns.map V.int
  | _, [], h => by
    cases h
    rfl
  | _, n :: ns, h => by
    cases h with
    | cons a b =>
      cases a
      rw [dds_int b]
      rfl
theorem sn_maxL {K : PySem.W.Frag} : SN f (rMax K) dMaxL := fun L σ H ρ vs xs Q R r d q k => by
  obtain ⟨ns, rfl, h0, q⟩ := q
  cases d with
  | cons a b =>
    cases b
    cases a with
    | lst g e c =>
      rw [dds_int c] at e
      exact ⟨_, ns, rfl, SqL.of e, h0, fun m h1 h2 => k _ H _ r.self (.int _) (q m h1 h2)⟩
/-- behind t the slot's list is its own no more -/
def dDemN (i : Nat) (t : DS) : DS := fun D ρ => t { D with nx := fun ρ' => onOwn ρ'[i]? fun xs => D.nx (ρ'.set i (.d (.list xs))) } ρ
theorem ss_demN {i : Nat} (h : SS f t d) : SS f t (dDemN i d) := fun L σ H ρ D E r q o =>
  h L σ H ρ _ E r q ⟨fun L' σ' H' ρ' t' r' q' => by
    replace q' := inv_own q'
    obtain ⟨xs, e, q'⟩ := q'
    obtain ⟨L2, t2, r2⟩ := r'.dem1 e
    exact o.nx L2 σ' H' _ (t'.trans r'.deck t2) r2 q', o.bk, o.ct, o.rt⟩
end
/-! a list beside [] -/
def rNil (K : PySem.W.Frag) (g : Bool → Bool) : R2 := fun x y H Q => ∃ (a b : Addr) (xs : List V), x = .ref a ∧ y = .ref b ∧ SqL K H a xs ∧ SqL K H b [] ∧ Q (.bl (g xs.isEmpty)) H
section
variable {X : Cx} {K : PySem.W.Frag} (hK : X.K = K)
include hK
theorem qo_eqNil (hu : X.A.units + 64 < cLine) : OpR X (compareOp .Eq) (rNil K id) := by
  subst hK
  intro ps s σ H x y v u Q I rx ry h
  obtain ⟨a, b, xs, rfl, rfl, ha, hb, q⟩ := h
  cases rx; cases ry
  obtain ⟨i1, r1, p1, _⟩ := I.list ha
  obtain ⟨i2, r2, p2, _⟩ := I.list hb
  cases r2
  have hu' : X.A.units < cLine := by omega
  cases r1 with
  | nil => exact SeqAt.eq_listAt (e := fun _ => true) p1.isList p2.isList rfl hu' (fun j h1 => absurd h1 (Nat.not_lt_zero j)) ⟨.bl true, H, I, rfl, q⟩
  | cons _ _ => exact SeqAt.eq_list_lengthsAt p1.isList p2.isList (by simp) hu' ⟨.bl false, H, I, rfl, q⟩
theorem qo_neNil (hu : X.A.units + 64 < cLine) : OpR X (compareOp .NotEq) (rNil K not) := by
  subst hK
  intro ps s σ H x y v u Q I rx ry h
  obtain ⟨a, b, xs, rfl, rfl, ha, hb, q⟩ := h
  cases rx; cases ry
  obtain ⟨i1, r1, p1, _⟩ := I.list ha
  obtain ⟨i2, r2, p2, _⟩ := I.list hb
  cases r2
  have hu' : X.A.units < cLine := by omega
  cases r1 with
  | nil => exact SeqAt.RcNeAt.lists (e := fun _ => true) p1.isList p2.isList rfl hu' (fun j h1 => absurd h1 (Nat.not_lt_zero j)) X.prog X.w _ _ ⟨.bl false, H, I, rfl, q⟩
  | cons _ _ => exact SeqAt.RcNeAt.lists_lengths p1.isList p2.isList (by simp) hu' X.prog X.w _ _ ⟨.bl true, H, I, rfl, q⟩
end
def dNilG (g : Bool → Bool) : R2d := fun x y Q => onLst x fun xs => onLst y fun ys => onNil ys (Q (.bool (g xs.isEmpty)))
theorem s2_nil {f : Fx} {K : PySem.W.Frag} {g : Bool → Bool} : S2 f (rNil K g) (dNilG g) := fun L σ H ρ v u x y Q R r dx dy q k => by
  replace q := inv_lst q
  obtain ⟨xs, rfl, q⟩ := q
  replace q := inv_lst q
  obtain ⟨ys, rfl, q⟩ := q
  replace q := inv_nil q
  obtain ⟨rfl, q⟩ := q
  cases dx with
  | lst fa ea ca =>
    cases dy with
    | lst fb eb cb =>
      cases cb
      refine ⟨_, _, _, rfl, rfl, SqL.of ea, SqL.of eb, k _ H _ r.self (.bl _) ?_⟩
      cases ca <;> exact q
/-! a tuple beside () -/
def rNilT (K : PySem.W.Frag) (g : Bool → Bool) : R2 := fun x y H Q => ∃ (a b : Addr) (xs : List V), x = .ref a ∧ y = .ref b ∧ SqT K H a xs ∧ SqT K H b [] ∧ Q (.bl (g xs.isEmpty)) H
theorem qo_eqNilT {X : Cx} {K : PySem.W.Frag} (hK : X.K = K) (hu : X.A.units + 64 < cLine) : OpR X (compareOp .Eq) (rNilT K id) := by
  subst hK
  intro ps s σ H x y v u Q I rx ry h
  obtain ⟨a, b, xs, rfl, rfl, ha, hb, q⟩ := h
  cases rx; cases ry
  obtain ⟨i1, r1, p1, _⟩ := I.tuple ha
  obtain ⟨i2, r2, p2, _⟩ := I.tuple hb
  cases r2
  have hu' : X.A.units < cLine := by omega
  refine SeqAt.eq_tupleAt (e := fun _ => true) (show s.heap.IsTuple a i1.toArray from p1) (show s.heap.IsTuple b ([] : List Value).toArray from p2) hu' (fun j h1 h2 => absurd h2 (Nat.not_lt_zero j)) ⟨.bl (id xs.isEmpty), H, I, ?_, q⟩
  cases r1 <;> rfl
def dNilT (g : Bool → Bool) : R2d := fun x y Q => onTup x fun xs => onTup y fun ys => onNil ys (Q (.bool (g xs.isEmpty)))
theorem s2_nilT {f : Fx} {K : PySem.W.Frag} {g : Bool → Bool} : S2 f (rNilT K g) (dNilT g) := fun L σ H ρ v u x y Q R r dx dy q k => by
  replace q := inv_tup q
  obtain ⟨xs, rfl, q⟩ := q
  replace q := inv_tup q
  obtain ⟨ys, rfl, q⟩ := q
  replace q := inv_nil q
  obtain ⟨rfl, q⟩ := q
  cases dx with
  | tup ea ca =>
    cases dy with
    | tup eb cb =>
      cases cb
      refine ⟨_, _, _, rfl, rfl, SqT.of ea, SqT.of eb, k _ H _ r.self (.bl _) ?_⟩
      cases ca <;> exact q
/-! three names at once -/
def dPar3 (i j l : Nat) (t : DA) : DS := fun D ρ => t ρ fun xs => ∃ x y z, xs = [x, y, z] ∧ D.nx (((ρ.set i (.d x)).set j (.d y)).set l (.d z))
theorem ss_par3 {f : Fx} {sa : TA} {ea : DA} {i j l : Nat} (h : SA f sa ea) : SS f (tPar3 i j l sa) (dPar3 i j l ea) := fun L σ H ρ D E r q o =>
  h L σ H ρ _ _ r q fun vs H1 xs g d q => by
    obtain ⟨x, y, z, rfl, q⟩ := q
    cases d with
    | cons a b =>
      cases b with
      | cons b c =>
        cases c with
        | cons c e =>
          cases e
          exact ⟨_, _, _, rfl, o.nx L _ H1 _ (Tr.of g) ((((r.mv g).setD a).setD b).setD c) q⟩
end Ey
/-! ### enumerate of a tuple -/
namespace Ey
open PySem PySem.Spec PyProof.Rows L2
abbrev enumObj (p : Addr) : Obj := { cls := .type "enumerate", data := .fields #[.none, .bool false, .ref p, rawInt 0, .none, .none] }
abbrev tupIter (a : Addr) : Obj := { cls := .type "tuple_iterator", data := .fields #[.ref a, .int 0 0] }
theorem meets_enumT (a : Addr) (ims : Array Value) : Meets (Builtin.«enumerate.__new__» ⟨[.type "enumerate", .ref a], []⟩) (fun _ R s => s.heap.IsTuple a ims ∧ R (.ok (.ret (.ref (s.heap.push (tupIter a)).objs.size))) { s with heap := (s.heap.push (tupIter a)).push (enumObj s.heap.objs.size) }) :=
  .of_wp fun prog w A R z h => by
    obtain ⟨hp, gg, dd, tt, oo⟩ := z; obtain ⟨ht, h⟩ := h
    have sb := sub_enumerate
    have walk : ∀ {A' : Around} {E Q : Value → Shared → Prop}, Q (.ref hp.objs.size) ⟨hp.push (tupIter a), gg, dd, tt, oo⟩ → wpAny (model prog w) A' (pyIter (.ref a)) Q E ⟨hp, gg, dd, tt, oo⟩ := fun q => wpAny_pyIter_tuple ht q
    wp_walk using walk
    refine wpAny_stack_any fun _ => wpAny_pure ?_
    split
    · rename_i c _ _ _ _ _
      cases (c == Value.type "enumerate") <;> (wp_walk using walk; exact ⟨_, rfl, h⟩)
    · wp_walk using walk
      exact ⟨_, rfl, h⟩
section
variable {w : World} {P : Program} {A : Around} {E : Value → Shared → Prop} {s : Shared}
theorem call_enumT {a : Addr} {ims : Array Value} {Q : Value → Shared → Prop} (ht : s.heap.IsTuple a ims)
    (q : ∀ g, IsEnum g (s.heap.objs.size + 1) s.heap.objs.size 0 .none → g.IsTupleIter s.heap.objs.size a 0 → (∀ b o, s.heap.get? b = some o → g.get? b = some o) → Q (.ref (s.heap.objs.size + 1)) { s with heap := g }) :
    wpAny (model P w) A (call (.type "enumerate") [.ref a]) Q E s := by
  refine callType_new F.called_enumerate (by decide) (F.typeCall_enumerate_1 _) (F.newCall_enumerate_1 _) (fun ob => F.args_object_init_2 ob _) F.entry_enumerate_new (meets_enumT a ims) ⟨ht, ?_⟩
  have z : (s.heap.push (tupIter a)).objs.size = s.heap.objs.size + 1 := Heap.size_push ..
  change _ ∧ _
  rw [z]
  have en : IsEnum ((s.heap.push (tupIter a)).push (enumObj s.heap.objs.size)) (s.heap.objs.size + 1) s.heap.objs.size 0 .none := by
    have h := Heap.get?_push_size (s.heap.push (tupIter a)) (o := enumObj s.heap.objs.size) rfl
    rw [z] at h
    exact h
  exact ⟨⟨_, en, rfl⟩, q _ en ⟨_, Heap.get?_push_of_some _ (Heap.get?_push_size _ rfl), rfl, rfl⟩ fun b o x => Heap.get?_push_of_some _ (Heap.get?_push_of_some _ x)⟩
end
/-- the tuple at a, each item in a new pair -/
def Itet (K : PySem.W.Frag) (a : Addr) : It :=
  ⟨fun i H => ∃ (xs : List V) (x : V), SqT K H a xs ∧ xs[i]? = some x, fun i H v H' => ∃ T x, v = .ref T ∧ H T = none ∧ H' = upd H T (.tup [.int (i : Nat), x]) ∧ ∀ xs, SqT K H a xs → xs[i]? = some x, fun i H => ∃ xs : List V, SqT K H a xs ∧ xs.length = i⟩
theorem turn_enumT {P : Program} {w : World} {K : PySem.W.Frag} {elts : List Expr} {kk : Nat} {tpos : Pos} (a e it : Addr) :
    Turn P w K (.Tuple elts kk tpos) (Itet K a) [e, it] e (fun i h => (∃ ov, IsEnum h e it ((i : Nat) : Int) ov) ∧ h.IsTupleIter it a i ∧ e ≠ it ∧ e ≠ a ∧ a ≠ it) where
  mem := by simp
  obj := fun i h st b hb => by
    obtain ⟨⟨ov, he⟩, ⟨o, ho, hc, hd⟩, _⟩ := st
    rcases List.mem_cons.mp hb with zz | zz
    · subst zz
      exact ⟨_, he, fun v q => nomatch q⟩
    · rw [List.mem_singleton.mp zz]
      exact ⟨o, ho, fun v q => by rw [hd] at q; cases q⟩
  keep := fun i h h' st k => let ⟨⟨ov, he⟩, hi, hne⟩ := st; ⟨⟨ov, k e (by simp) _ he⟩, hi.at fun o q => k it (by simp) o q, hne⟩
  item := by
    intro X hP hw hK hc i ps s σ H E I hf st hg
    subst hP; subst hw; subst hK
    obtain ⟨⟨ov, he⟩, hit, n1, n2, n3⟩ := st
    obtain ⟨xs, x, hq, hx⟩ := hg
    obtain ⟨ims, rv, p, hz⟩ := I.tuple hq
    obtain ⟨u, hu, wu⟩ := rv.get hx
    have le : e < s.heap.objs.size := Heap.lt_size he
    have li : it < s.heap.objs.size := by obtain ⟨_, q, _⟩ := hit; exact Heap.lt_size q
    have lt : i < ims.toArray.size := by
      have := (List.getElem?_eq_some_iff.mp hu).1
      simpa using this
    have hd3 : X.A.in1.handled = none := by simp [I.ok.hd hc]
    refine wpAny_pyNext_enum_itemD (Draws.tuple hd3 it a n3 ims.toArray) he ⟨hit, p⟩ lt n1 (by simp [n1, n2]) fun y g tk hy ho st2 hT hsz hk => ?_
    have ey : y = u := by
      have h : ims[i]? = some y := by simpa using hy
      rw [hu] at h
      exact (Option.some.inj h).symm
    subst ey
    refine ⟨_, rfl, wpAny_letOwnedTupleGo_enum (s := { s with heap := g, toks := tk + 1 }) ho fun g2 he' sb => ?_⟩
    have hT2 : g2.get? s.heap.objs.size = some { cls := .type "tuple", data := .seq #[.int i tk, y] } := (sb.2 _ (Nat.ne_of_gt le)).trans hT
    have new : ObjOk X.prog X.w (upd H s.heap.objs.size (.tup [.int (i : Nat), x])) g2 s.heap.objs.size (.tup [.int (i : Nat), x]) := ⟨by show 2 ≤ sizeLine; decide, [.int i tk, y], .cons ⟨_, rfl⟩ (.cons wu .nil), ⟨_, hT2, rfl, _, rfl⟩⟩
    have I1 : Inv X ps σ (upd H s.heap.objs.size (.tup [.int (i : Nat), x])) { s with heap := g2, toks := tk + 1 } :=
      I.turnedNew (ch := [e, it]) (fun b ob hb q => (sb.2 b fun z => hb (by simp [z])).trans (hk b ob (fun z => hb (by simp [z])) (fun z => hb (by simp [z])) q)) hf (Nat.le_refl _) new
    refine ⟨.ref s.heap.objs.size, _, I1, rfl, ⟨_, x, rfl, I.hok.fresh (Nat.le_refl _), rfl, fun ys hy => by rw [I.tuple_inj hy hq]; exact hx⟩, ⟨⟨y, ?_⟩, st2.1.at fun o q => (sb.2 it (Ne.symm n1)).trans q, n1, n2, n3⟩, fun b hb => ?_⟩
    · rw [show ((i + 1 : Nat) : Int) = (i : Int) + 1 by omega]
      exact he'
    · have lb : b < s.heap.objs.size := by
        rcases List.mem_cons.mp hb with zz | zz
        · rw [zz]; exact le
        · rw [List.mem_singleton.mp zz]; exact li
      rw [upd_ne (Nat.ne_of_lt lb)]
      exact (hf b hb).1
  done := by
    intro X hP hw hK hc i ps s σ H E I hf st hg
    subst hP; subst hw; subst hK
    obtain ⟨⟨ov, he⟩, hit, n1, n2, n3⟩ := st
    obtain ⟨xs, hq, hx⟩ := hg
    obtain ⟨ims, rv, p, hz⟩ := I.tuple hq
    obtain ⟨g0, g1, g2, g3, g4, g5⟩ := hf it (by simp)
    have hd3 : X.A.in1.handled = none := by simp [I.ok.hd hc]
    have e1 : i = ims.toArray.size := by rw [← hx, rv.length]; simp
    subst e1
    exact wpAny_pyNext_enum_endD (Draws.tuple hd3 it a n3 ims.toArray) he ⟨hit, p⟩ fun g eb => ⟨rfl, I.turned (t' := s.toks) (fun b o hb q => eb b o hb q) g0 g1 g3 g4 g5⟩
  self := fun _ _ _ _ _ st h => by
    obtain ⟨⟨_, he⟩, _⟩ := st
    exact wpAny_pyIter_enum he h
def iEnumA (K : PySem.W.Frag) (ta : TA) : TI := fun σ H R => iEnum K ta σ H R ∨ ta σ H fun vs H1 => ∃ a xs, vs = [.ref a] ∧ SqT K H1 a xs ∧ R (Itet K a) H1
theorem pi_enumT {X : Cx} {e : Expr} {ta : TA} {p pos tpos : Pos} {elts : List Expr} {kk : Nat} (hg : Gl X "enumerate") (hm : X.mg "enumerate" = none) (ha : PA X [e] ta) (hs : starEach [e] X.env = [(false, eval e X.env)] := by rfl) :
    PI X (.Tuple elts kk tpos) (.Call (.Name "enumerate" p) [e] [] pos) (fun σ H R => ta σ H fun vs H1 => ∃ a xs, vs = [.ref a] ∧ SqT X.K H1 a xs ∧ R (Itet X.K a) H1) := by
  refine ⟨fun ps s σ H R I h => ?_⟩
  refine Call_ (ld_blt I hg hm boot_enumerate (PyProof.Rows.callWith_type1 (thn (ha.run pos ps s σ H _ I h) fun us s1 ⟨vs, H1, I1, r1, q1⟩ => ?_) hs rfl))
  obtain ⟨a, xs, evs, hq, q⟩ := q1
  subst evs
  cases r1 with
  | cons r rr =>
    cases rr
    cases r
    obtain ⟨ims, rv, p', hz⟩ := I1.tuple hq
    have la : a < s1.heap.objs.size := by
      obtain ⟨o, e, _⟩ := p'
      exact Heap.lt_size e
    refine call_enumT (show s1.heap.IsTuple a ims.toArray from p') fun g he hit hk => wpAny_pyIter_enum he ?_
    refine ⟨s1.heap.objs.size + 1, [s1.heap.objs.size + 1, s1.heap.objs.size], _, _, H1, rfl, I1.kept (t' := s1.toks) hk, turn_enumT a (s1.heap.objs.size + 1) s1.heap.objs.size, ⟨⟨.none, he⟩, hit, Nat.succ_ne_self _, ?_, Nat.ne_of_lt la⟩, fun b hb => ?_, q⟩
    · exact Nat.ne_of_gt (Nat.lt_succ_of_lt la)
    · have lb : s1.heap.objs.size ≤ b := by
        rcases List.mem_cons.mp hb with zz | zz
        · rw [zz]; exact Nat.le_succ _
        · rw [List.mem_singleton.mp zz]; exact Nat.le_refl _
      exact I1.fpOk lb (I1.hok.fresh lb)
theorem qi_enumA {X : Cx} {K : PySem.W.Frag} (hK : X.K = K) {e : Expr} {ta : TA} {p pos tpos : Pos} {elts : List Expr} {kk : Nat} (hg : Gl X "enumerate") (hm : X.mg "enumerate" = none) (ha : PA X [e] ta) (hs : starEach [e] X.env = [(false, eval e X.env)] := by rfl) :
    PI X (.Tuple elts kk tpos) (.Call (.Name "enumerate" p) [e] [] pos) (iEnumA K ta) := by
  subst hK
  exact PI.or (pi_enum hg hm ha hs) (pi_enumT hg hm ha hs)
def dEnumA (t : DA) : DI := fun ρ Q => dEnum t ρ Q ∨ t ρ fun zs => onOne zs fun x => onTup x fun xs => Q (enumD 0 xs)
theorem si_enumA {f : Fx} {K : PySem.W.Frag} {ta : TA} {t : DA} (h : SA f ta t) : SI f (iEnumA K ta) (dEnumA t) := fun L σ H ρ Q R r q k => by
  rcases q with q | q
  · exact .inl (si_enum h L σ H ρ Q R r q k)
  refine .inr (h L σ H ρ _ _ r q fun vs H1 zs g d q => ?_)
  have r1 := r.mv g
  replace q := inv_one q
  obtain ⟨x, rfl, q⟩ := q
  replace q := inv_tup q
  obtain ⟨xs, rfl, q⟩ := q
  cases d with
  | cons a b =>
    cases b
    cases a with
    | @tup a vs xs e d =>
      have at_ : ∀ {L' H'}, Tr f L H1 L' H' → H' a = some (.tup vs) := fun t => t.kp a _ e (Rel.tup_off r1.deck e) fun m => by
        obtain ⟨ws, e2⟩ := (r1.own a m).2
        rw [e] at e2
        cases e2
      have hl := d.length
      refine ⟨_, _, rfl, SqT.of e, k _ H1 _ g ⟨fun L' H' t _ => ⟨vs, SqT.of (at_ t), by rw [enum_len]; omega⟩, fun i L' H' hi t _ => ?_, fun i z L' H' v H'' hx t r' y => ?_⟩ q⟩
      · rw [enum_len] at hi
        exact ⟨vs, vs[i]'(by omega), SqT.of (at_ t), List.getElem?_eq_getElem _⟩
      · obtain ⟨T, x1, rfl, nT, rfl, f1⟩ := y
        obtain ⟨x, hx1, rfl⟩ := enum_get hx
        obtain ⟨u, hu, du⟩ := dds_get d hx1
        have e1 := f1 vs (SqT.of (at_ t))
        rw [hu] at e1
        cases e1
        rw [Nat.zero_add]
        have g := r'.new (o := .tup [.int (i : Nat), x1]) nT
        exact ⟨g, .tup upd_same (.cons (.int _) (.cons (r'.dd g (t.dd r1 du)) .nil))⟩
end Ey
/-! math.gcd of three -/
namespace Ey
open PySem PySem.Spec PyProof.Rows L2
open PySem.W in
theorem args_gcd3 (a b c : Value) : argsOk "math.gcd" ⟨[a, b, c], []⟩ := by unfold argsOk; kernel_rfl
open PySem.Calls in
theorem run_gcd3 (a b c : Int) (t u v : Tok) : Gives (Builtin.«math.gcd» ⟨[.int a t, .int b u, .int c v], []⟩) (.int ((((Nat.gcd 0 a.natAbs).gcd b.natAbs).gcd c.natAbs : Nat) : Int)) :=
  .of_wp fun M A E s Q h => by obtain ⟨hp, g, d, tk, os⟩ := s; wp_walk; exact ⟨_, rfl, h⟩
theorem vals_int3 {i j k : Int} {us : List Value} (r : Vals [V.int i, V.int j, V.int k] us) : ∃ t u v, us = [Value.int i t, Value.int j u, Value.int k v] := by
  cases r with
  | cons a r =>
    obtain ⟨t, rfl⟩ := a
    obtain ⟨u, v, rfl⟩ := Vals.int2 r
    exact ⟨t, u, v, rfl⟩
section
variable {X : Cx}
def rGcd3 : List V → Hp → VK → Prop := fun vs H Q => ∃ a b c : Int, vs = [.int a, .int b, .int c] ∧ Q (.int ((Nat.gcd (Nat.gcd a.natAbs b.natAbs) c.natAbs : Nat) : Int)) H
theorem cr_gcd3 : CallR X (.builtin "math.gcd") rGcd3 := by
  intro pins s σ H vs us Q I r h
  obtain ⟨a, b, c, rfl, q⟩ := h
  obtain ⟨t, u, v, rfl⟩ := vals_int3 r
  have g := run_gcd3 a b c t u v
  rw [Nat.gcd_zero_left] at g
  exact PySem.call_function_meets PySem.W.MGF.kind_gcd PySem.W.MGF.plain_gcd PySem.W.MGF.entry_gcd (args_gcd3 _ _ _) g.meets ⟨.int _, H, I.tok _, ⟨_, rfl⟩, q⟩
end
end Ey
set_option exponentiation.threshold 3000
/-! ### mathematics of places and lines -/
namespace Ey
open PySem PySem.Spec PyProof.Rows L2
def gl (ns : List Int) : Nat := ns.foldl (fun g x => Nat.gcd x.natAbs g) 0
theorem gl_take {ns : List Int} {i : Nat} {x : Int} (h : ns[i]? = some x) : gl (ns.take (i + 1)) = Nat.gcd x.natAbs (gl (ns.take i)) := by
  unfold gl
  rw [List.take_add_one, h, List.foldl_append] <;> rfl
theorem gcd_step {p q : Int} (hp : 0 ≤ p) (hq : 0 < q) : Nat.gcd q.natAbs (p % q).natAbs = Nat.gcd p.natAbs q.natAbs := by
  rw [Int.natAbs_emod_of_nonneg hp, Nat.gcd_comm, Nat.gcd_comm p.natAbs]
  exact (Nat.gcd_rec q.natAbs p.natAbs).symm
theorem gl_dvd {ns : List Int} : ∀ x ∈ ns, gl ns ∣ x.natAbs := by
  have go : ∀ (ns : List Int) (g : Nat), (ns.foldl (fun g x => Nat.gcd x.natAbs g) g) ∣ g ∧ ∀ x ∈ ns, (ns.foldl (fun g x => Nat.gcd x.natAbs g) g) ∣ x.natAbs := by
    intro ns
    induction ns with
    | nil => exact fun g => ⟨Nat.dvd_refl _, fun _ h => nomatch h⟩
    | cons y ns ih =>
      intro g
      obtain ⟨h1, h2⟩ := ih (Nat.gcd y.natAbs g)
      refine ⟨Nat.dvd_trans h1 (Nat.gcd_dvd_right _ _), fun x hx => ?_⟩
      rcases List.mem_cons.mp hx with rfl | hx
      · exact Nat.dvd_trans h1 (Nat.gcd_dvd_left _ _)
      · exact h2 x hx
  exact (go ns 0).2
theorem gl_pos {ns : List Int} (h : ns ≠ List.replicate ns.length 0) : ∃ x ∈ ns, 0 < gl ns ∧ gl ns ≤ x.natAbs := by
  have : ∃ x ∈ ns, x ≠ 0 := by
    refine Decidable.byContradiction fun hn => h (List.eq_replicate_iff.mpr ⟨rfl, fun x hx => ?_⟩)
    exact Decidable.byContradiction fun hx0 => hn ⟨x, hx, hx0⟩
  obtain ⟨x, hx, h0⟩ := this
  have hd := gl_dvd x hx
  have hp : 0 < x.natAbs := Int.natAbs_pos.mpr h0
  exact ⟨x, hx, Nat.pos_of_dvd_of_pos hd hp, Nat.le_of_dvd hp hd⟩
def lowest (ns : List Int) : List Int := ns.map fun x => x / (gl ns : Nat)
def isInts (n : Int) : PyData → Bool
  | .tuple ds => (ds.length : Int) == n && ds.all isInt
  | _ => false
theorem isInts_tup {n : Int} {ds : List PyData} : isInts n (.tuple ds) = ((ds.length : Int) == n && ds.all isInt) := rfl
theorem bulk_len : ∀ ds : List PyData, ds.length ≤ PyData.bulkAll ds
  | [] => Nat.zero_le _
  | d :: ds => by
    have := bulk_len ds
    simp only [PyData.bulkAll, List.length_cons]
    omega
theorem filt_int {ds : List PyData} : (ds.filter fun d => !isInt d).isEmpty = ds.all isInt := by
  induction ds with
  | nil => rfl
  | cons d ds ih =>
    rw [List.filter_cons, List.all_cons]
    cases isInt d with
    | true => simpa using ih
    | false => rfl
def isPlace : PyData → Bool
  | .tuple [.int x, .int y, .int w] => decide (0 < w) && decide (Nat.gcd (Nat.gcd x.natAbs y.natAbs) w.natAbs = 1)
  | _ => false
theorem isInts3 {e : PyData} (h : isInts 3 e = true) : ∃ x y w : Int, e = .tuple [.int x, .int y, .int w] := by
  cases e with
  | tuple ds =>
    rw [isInts_tup, Bool.and_eq_true] at h
    have hl : (ds.length : Int) = 3 := eq_of_beq h.1
    have ha := h.2
    match ds, hl, ha with
    | [a, b, c], _, ha =>
      rw [List.all_cons, List.all_cons, List.all_cons, Bool.and_eq_true, Bool.and_eq_true, Bool.and_eq_true] at ha
      cases a with
      | int x =>
        cases b with
        | int y =>
          cases c with
          | int z => exact ⟨x, y, z, rfl⟩
          | _ => exact absurd ha.2.2.1 Bool.false_ne_true
        | _ => exact absurd ha.2.1 Bool.false_ne_true
      | _ => exact absurd ha.1 Bool.false_ne_true
  | _ => exact absurd h Bool.false_ne_true
theorem isInts2 {e : PyData} (h : isInts 2 e = true) : ∃ x y : Int, e = .tuple [.int x, .int y] := by
  cases e with
  | tuple ds =>
    rw [isInts_tup, Bool.and_eq_true] at h
    have hl : (ds.length : Int) = 2 := eq_of_beq h.1
    have ha := h.2
    match ds, hl, ha with
    | [a, b], _, ha =>
      rw [List.all_cons, List.all_cons, Bool.and_eq_true, Bool.and_eq_true] at ha
      cases a with
      | int x =>
        cases b with
        | int y => exact ⟨x, y, rfl⟩
        | _ => exact absurd ha.2.1 Bool.false_ne_true
      | _ => exact absurd ha.1 Bool.false_ne_true
  | _ => exact absurd h Bool.false_ne_true
theorem isPlace_no {e : PyData} (h : isInts 3 e = false) : isPlace e = false := by
  unfold isPlace
  split
  · exact absurd (show true = false from h) (by decide)
  · rfl
theorem gl3 (x y z : Int) : gl [x, y, z] = Nat.gcd (Nat.gcd x.natAbs y.natAbs) z.natAbs := by
  show Nat.gcd z.natAbs (Nat.gcd y.natAbs (Nat.gcd x.natAbs 0)) = _
  rw [Nat.gcd_zero_right, Nat.gcd_comm y.natAbs, Nat.gcd_comm]
theorem gl2 (x y : Int) : gl [x, y] = Nat.gcd x.natAbs y.natAbs := by
  show Nat.gcd y.natAbs (Nat.gcd x.natAbs 0) = _
  rw [Nat.gcd_zero_right, Nat.gcd_comm]
def isDir : PyData → Bool
  | .tuple [.int x, .int y] => decide (Nat.gcd x.natAbs y.natAbs = 1)
  | _ => false
theorem isDir_no {e : PyData} (h : isInts 2 e = false) : isDir e = false := by
  unfold isDir
  split
  · exact absurd (show true = false from h) (by decide)
  · rfl
theorem isDir_eq {x y : Int} : isDir (.tuple [.int x, .int y]) = decide (Nat.gcd x.natAbs y.natAbs = 1) := rfl
def isLine : PyData → Bool
  | .tuple [.int x, .int y, .int w] => !(decide (x = 0) && decide (y = 0)) && decide (Nat.gcd (Nat.gcd x.natAbs y.natAbs) w.natAbs = 1)
  | _ => false
theorem isLine_no {e : PyData} (h : isInts 3 e = false) : isLine e = false := by
  unfold isLine
  split
  · exact absurd (show true = false from h) (by decide)
  · rfl
theorem isLine_eq {x y w : Int} : isLine (.tuple [.int x, .int y, .int w]) = (!(decide (x = 0) && decide (y = 0)) && decide (Nat.gcd (Nat.gcd x.natAbs y.natAbs) w.natAbs = 1)) := rfl
theorem eqv_ints : ∀ a b : List Int, PyData.eqv (.tuple (a.map .int)) (.tuple (b.map .int)) = decide (a = b) := by
  have go : ∀ a b : List Int, PyData.eqvAll (a.map .int) (b.map .int) = decide (a = b) := by
    intro a
    induction a with
    | nil =>
      intro b
      cases b <;> simp [PyData.eqvAll]
    | cons x a ih =>
      intro b
      cases b with
      | nil => simp [PyData.eqvAll]
      | cons y b =>
        simp only [List.map_cons, PyData.eqvAll, PyData.eqv, ih]
        by_cases h1 : x = y
        · by_cases h2 : a = b
          · simp [h1, h2]
          · simp [h1, h2]
        · simp [h1]
  intro a b
  simp only [PyData.eqv, go]
theorem shaped_tup (ns : List Int) : SeqAt.shaped (.tuple (ns.map PyData.int)) = true := by
  unfold SeqAt.shaped
  simp [PyData.canLay0, PyData.depth, lay_ints, dep_ints]
theorem gl_le {ns : List Int} {x : Int} (hx : x ∈ ns) (h0 : x ≠ 0) : 0 < gl ns ∧ gl ns ≤ x.natAbs := by
  have hd := gl_dvd x hx
  have hp : 0 < x.natAbs := Int.natAbs_pos.mpr h0
  exact ⟨Nat.pos_of_dvd_of_pos hd hp, Nat.le_of_dvd hp hd⟩
theorem low3 (x y z : Int) : lowest [x, y, z] = [x / (gl [x, y, z] : Nat), y / (gl [x, y, z] : Nat), z / (gl [x, y, z] : Nat)] := rfl
theorem gl_neg3 (x y z : Int) : gl [-x, -y, -z] = gl [x, y, z] := by rw [gl3, gl3, Int.natAbs_neg, Int.natAbs_neg, Int.natAbs_neg]
theorem dvd_gl {ns : List Int} {x : Int} (h : x ∈ ns) : ((gl ns : Nat) : Int) ∣ x := Int.ofNat_dvd_left.mpr (gl_dvd x h)
theorem low_neg3 (x y z : Int) : lowest [-x, -y, -z] = [-(x / (gl [x, y, z] : Nat)), -(y / (gl [x, y, z] : Nat)), -(z / (gl [x, y, z] : Nat))] := by
  rw [low3, gl_neg3, Int.neg_ediv_of_dvd (dvd_gl (by simp)), Int.neg_ediv_of_dvd (dvd_gl (by simp)), Int.neg_ediv_of_dvd (dvd_gl (by simp))]
def placeOf (x y w : Int) : List Int := lowest (if 0 < w then [x, y, w] else [-x, -y, -w])
theorem placeOf_pos {x y w : Int} (h : 0 < w) : placeOf x y w = lowest [x, y, w] := by unfold placeOf; rw [if_pos h]
theorem placeOf_neg {x y w : Int} (h : ¬ 0 < w) : placeOf x y w = lowest [-x, -y, -w] := by unfold placeOf; rw [if_neg h]
theorem sign_div {x y w : Int} (h0 : w ≠ 0) : (w / (gl [x, y, w] : Nat) < 0) = (w < 0) := by
  obtain ⟨g0, g1⟩ := gl_le (ns := [x, y, w]) (x := w) (by simp) h0
  have hd : ((gl [x, y, w] : Nat) : Int) ∣ w := dvd_gl (by simp)
  obtain ⟨k, hk⟩ := hd
  have hg : (0 : Int) < ((gl [x, y, w] : Nat) : Int) := by omega
  generalize ((gl [x, y, w] : Nat) : Int) = g at hk hg
  subst hk
  rw [Int.mul_ediv_cancel_left _ (by omega)]
  refine propext ⟨fun h => Int.mul_neg_of_pos_of_neg hg h, fun h => ?_⟩
  exact Decidable.byContradiction fun z => absurd (Int.mul_nonneg (Int.le_of_lt hg) (by omega : 0 ≤ k)) (by omega)
theorem gl_mul3 (x y z s : Int) : gl [x * s, y * s, z * s] = gl [x, y, z] * s.natAbs := by
  rw [gl3, gl3, Int.natAbs_mul, Int.natAbs_mul, Int.natAbs_mul, Nat.gcd_mul_right, Nat.gcd_mul_right]
theorem low_mul3 {x y z s : Int} (h : 0 < s) : lowest [x * s, y * s, z * s] = lowest [x, y, z] := by
  have e : ((gl [x * s, y * s, z * s] : Nat) : Int) = ((gl [x, y, z] : Nat) : Int) * s := by
    rw [gl_mul3, Int.natCast_mul, Int.natAbs_of_nonneg (Int.le_of_lt h)]
  rw [low3, low3, e, Int.mul_ediv_mul_of_pos_left _ _ h, Int.mul_ediv_mul_of_pos_left _ _ h, Int.mul_ediv_mul_of_pos_left _ _ h]
theorem placeOf_mul {x y w t : Int} (hw : w ≠ 0) (ht : t ≠ 0) : placeOf (x * t) (y * t) (w * t) = placeOf x y w := by
  by_cases h : 0 < t
  · by_cases g : 0 < w
    · rw [placeOf_pos g, placeOf_pos (Int.mul_pos g h), low_mul3 h]
    · have g' : w * t < 0 := Int.mul_neg_of_neg_of_pos (by omega) h
      rw [placeOf_neg g, placeOf_neg (by omega), ← Int.neg_mul, ← Int.neg_mul, ← Int.neg_mul, low_mul3 h]
  · have h' : 0 < -t := by omega
    by_cases g : 0 < w
    · have g' : w * t < 0 := Int.mul_neg_of_pos_of_neg g (by omega)
      rw [placeOf_pos g, placeOf_neg (by omega), ← Int.mul_neg, ← Int.mul_neg, ← Int.mul_neg, low_mul3 h']
    · have g' : 0 < w * t := Int.mul_pos_of_neg_of_neg (by omega) (by omega)
      rw [placeOf_neg g, placeOf_pos g', ← low_mul3 (x := -x) (y := -y) (z := -w) h', Int.neg_mul_neg, Int.neg_mul_neg, Int.neg_mul_neg]
theorem natAbs_div {x : Int} {g : Nat} (h : (g : Int) ∣ x) : (x / (g : Int)).natAbs = x.natAbs / g := by
  obtain ⟨k, rfl⟩ := h
  by_cases hg : g = 0
  · subst hg
    simp
  · rw [Int.mul_ediv_cancel_left _ (by omega), Int.natAbs_mul, Int.natAbs_natCast, Nat.mul_div_cancel_left _ (Nat.pos_of_ne_zero hg)]
theorem gl_low3 {x y z : Int} (h : 0 < gl [x, y, z]) : Nat.gcd (Nat.gcd (x / (gl [x, y, z] : Nat)).natAbs (y / (gl [x, y, z] : Nat)).natAbs) (z / (gl [x, y, z] : Nat)).natAbs = 1 := by
  have dx := gl_dvd (ns := [x, y, z]) x (by simp)
  have dy := gl_dvd (ns := [x, y, z]) y (by simp)
  have dz := gl_dvd (ns := [x, y, z]) z (by simp)
  rw [natAbs_div (dvd_gl (by simp)), natAbs_div (dvd_gl (by simp)), natAbs_div (dvd_gl (by simp)), Nat.gcd_div dx dy, Nat.gcd_div (Nat.dvd_gcd dx dy) dz, ← gl3]
  exact Nat.div_self h
theorem isPlace_low {x y z : Int} (h : 0 < z) : isPlace (.tuple ((lowest [x, y, z]).map .int)) = true := by
  obtain ⟨g0, _⟩ := gl_le (ns := [x, y, z]) (x := z) (by simp) (by omega)
  show (decide (0 < z / (gl [x, y, z] : Nat)) && decide (Nat.gcd (Nat.gcd (x / (gl [x, y, z] : Nat)).natAbs (y / (gl [x, y, z] : Nat)).natAbs) (z / (gl [x, y, z] : Nat)).natAbs = 1)) = true
  have hs : ¬ (z / (gl [x, y, z] : Nat) < 0) := by
    rw [sign_div (by omega)]
    omega
  have h0 : z / (gl [x, y, z] : Nat) ≠ 0 := by
    have hd : ((gl [x, y, z] : Nat) : Int) ∣ z := dvd_gl (by simp)
    intro e
    have := Int.ediv_mul_cancel hd
    rw [e] at this
    omega
  rw [decide_eq_true (by omega : 0 < z / (gl [x, y, z] : Nat)), decide_eq_true (gl_low3 g0)]
  rfl
theorem isPlace_placeOf {x y w : Int} (h : w ≠ 0) : isPlace (.tuple ((placeOf x y w).map .int)) = true := by
  by_cases g : 0 < w
  · rw [placeOf_pos g]
    exact isPlace_low g
  · rw [placeOf_neg g]
    exact isPlace_low (by omega)
theorem placeOf_is (x y w : Int) : ∃ a b c : Int, placeOf x y w = [a, b, c] ∧ a.natAbs ≤ x.natAbs ∧ b.natAbs ≤ y.natAbs ∧ c.natAbs ≤ w.natAbs := by
  by_cases g : 0 < w
  · rw [placeOf_pos g]
    exact ⟨_, _, _, low3 .., Int.natAbs_ediv_le_natAbs _ _, Int.natAbs_ediv_le_natAbs _ _, Int.natAbs_ediv_le_natAbs _ _⟩
  · rw [placeOf_neg g]
    refine ⟨_, _, _, low3 .., ?_, ?_, ?_⟩
    · exact Nat.le_trans (Int.natAbs_ediv_le_natAbs _ _) (by omega)
    · exact Nat.le_trans (Int.natAbs_ediv_le_natAbs _ _) (by omega)
    · exact Nat.le_trans (Int.natAbs_ediv_le_natAbs _ _) (by omega)
theorem sz_placeOf {n1 n2 n3 m1 m2 m3 : Nat} {x y w : Int} (hx : Sz n1 m1 (.int x)) (hy : Sz n2 m2 (.int y)) (hw : Sz n3 m3 (.int w)) : Sz 3 1 (.tuple ((placeOf x y w).map .int)) := by
  obtain ⟨a, b, c, e, ha, hb, hc⟩ := placeOf_is x y w
  rw [e]
  exact ((sza_cons (sz_int (Nat.lt_of_le_of_lt ha (ib_int hx.ib))) (sza_cons (sz_int (Nat.lt_of_le_of_lt hb (ib_int hy.ib))) (sza_cons (sz_int (Nat.lt_of_le_of_lt hc (ib_int hw.ib))) sza_nil))).tuple).mono (by decide) (by decide)
def Lt6 (n : Int) : Prop := n.natAbs < 2 ^ 600
theorem lt6_mul {x y : Int} (a : Lt6 x) (b : Lt6 y) : CMulW x y := wide_mul a b (by decide) (by decide) (by decide)
theorem lt6_of {x : Int} {n : Nat} (h : x.natAbs < 2 ^ n) (hn : n ≤ 600) : Lt6 x := Nat.lt_of_lt_of_le h (Nat.pow_le_pow_right (by decide) hn)
theorem lt6_neg {x : Int} (h : Lt6 x) : Lt6 (-x) := by
  unfold Lt6
  rw [Int.natAbs_neg]
  exact h
theorem lt6_div {x : Int} {n : Int} (h : Lt6 x) : Lt6 (x / n) := Nat.lt_of_le_of_lt (Int.natAbs_ediv_le_natAbs _ _) h
theorem sub_lt {x y : Int} {n : Nat} (a : x.natAbs < 2 ^ n) (b : y.natAbs < 2 ^ n) : (x - y).natAbs < 2 ^ (n + 1) := by
  rw [Nat.pow_succ]
  have := Int.natAbs_sub_le x y
  omega
theorem add_lt {x y : Int} {n : Nat} (a : x.natAbs < 2 ^ n) (b : y.natAbs < 2 ^ n) : (x + y).natAbs < 2 ^ (n + 1) := by
  rw [Nat.pow_succ]
  have := Int.natAbs_add_le x y
  omega
def crossI (a b c d e f : Int) : List Int := [b * f - c * e, c * d - a * f, a * e - b * d]
theorem cross_lt {n : Nat} {a b c d : Int} (ha : a.natAbs < 2 ^ n) (hb : b.natAbs < 2 ^ n) (hc : c.natAbs < 2 ^ n) (hd : d.natAbs < 2 ^ n) : (a * b - c * d).natAbs < 2 ^ (n + n + 1) := sub_lt (wide_lt ha hb) (wide_lt hc hd)
def sgn (n : Int) : Int := if 0 < n then 1 else if n < 0 then -1 else 0
def meetOf (x y w : Int) : PyData := if w = 0 then .none else .tuple ((placeOf x y w).map .int)
def meetD (a b c d e f : Int) : PyData := meetOf (b * f - c * e) (c * d - a * f) (a * e - b * d)
theorem isLine_ints {e : PyData} (h : isLine e = true) : isInts 3 e = true := by
  cases z : isInts 3 e with
  | true => rfl
  | false =>
    rw [isLine_no z] at h
    cases h
theorem isPlace_ints {e : PyData} (h : isPlace e = true) : isInts 3 e = true := by
  cases z : isInts 3 e with
  | true => rfl
  | false =>
    rw [isPlace_no z] at h
    cases h
structure Lt63 (x y z : Int) : Prop where
  a : Lt6 x
  b : Lt6 y
  c : Lt6 z
theorem big600 {x y z u : Int} (a : Lt6 x) (b : Lt6 y) (c : Lt6 z) (d : Lt6 u) : (x * y - z * u).natAbs < 2 ^ 2100 := Nat.lt_of_lt_of_le (cross_lt a b c d) (Nat.pow_le_pow_right (by decide) (by decide))
theorem gl_crossM {a b c d e f : Int} (h1 : Lt63 a b c) (h2 : Lt63 d e f) (h : b * f - c * e ≠ 0 ∨ c * d - a * f ≠ 0) : 0 < gl (crossI a b c d e f) ∧ gl (crossI a b c d e f) < 2 ^ 2100 := by
  rcases h with h | h
  · obtain ⟨k1, k2⟩ := gl_le (ns := crossI a b c d e f) (x := b * f - c * e) (by simp [crossI]) h
    exact ⟨k1, Nat.lt_of_le_of_lt k2 (big600 h1.b h2.c h1.c h2.b)⟩
  · obtain ⟨k1, k2⟩ := gl_le (ns := crossI a b c d e f) (x := c * d - a * f) (by simp [crossI]) h
    exact ⟨k1, Nat.lt_of_le_of_lt k2 (big600 h1.c h2.a h1.a h2.c)⟩
theorem isLine_def {x y z : Int} : isLine (.tuple [.int x, .int y, .int z]) = true ↔ (x ≠ 0 ∨ y ≠ 0) ∧ Nat.gcd (Nat.gcd x.natAbs y.natAbs) z.natAbs = 1 := by
  rw [isLine_eq, Bool.and_eq_true, decide_eq_true_iff]
  refine and_congr_left fun _ => ?_
  by_cases hx : x = 0
  · by_cases hy : y = 0
    · simp [hx, hy]
    · simp [hx, hy]
  · simp [hx]
theorem isPlace_def {x y z : Int} : isPlace (.tuple [.int x, .int y, .int z]) = true ↔ 0 < z ∧ gl [x, y, z] = 1 := by
  show (decide (0 < z) && decide (Nat.gcd (Nat.gcd x.natAbs y.natAbs) z.natAbs = 1)) = true ↔ _
  rw [gl3, Bool.and_eq_true, decide_eq_true_iff, decide_eq_true_iff]
theorem div_zero_of {x : Int} {g : Nat} (hd : (g : Int) ∣ x) (h : x / (g : Int) = 0) : x = 0 := by
  have := Int.ediv_mul_cancel hd
  rw [h] at this
  omega
theorem isLine_low {x y z : Int} (h : x ≠ 0 ∨ y ≠ 0) : isLine (.tuple ((lowest [x, y, z]).map .int)) = true := by
  have g0 : 0 < gl [x, y, z] := by
    rcases h with h | h
    · exact (gl_le (ns := [x, y, z]) (x := x) (by simp) h).1
    · exact (gl_le (ns := [x, y, z]) (x := y) (by simp) h).1
  refine isLine_def.mpr ⟨?_, gl_low3 g0⟩
  rcases h with h | h
  · exact .inl fun e => h (div_zero_of (dvd_gl (by simp)) e)
  · exact .inr fun e => h (div_zero_of (dvd_gl (by simp)) e)
theorem isLine_neg {x y z : Int} (h : isLine (.tuple [.int x, .int y, .int z]) = true) : isLine (.tuple [.int (-x), .int (-y), .int (-z)]) = true := by
  obtain ⟨h1, h2⟩ := isLine_def.mp h
  refine isLine_def.mpr ⟨by omega, ?_⟩
  rw [Int.natAbs_neg, Int.natAbs_neg, Int.natAbs_neg]
  exact h2
theorem low_one {x y z : Int} (h : gl [x, y, z] = 1) : lowest [x, y, z] = [x, y, z] := by
  rw [low3, h]
  simp
theorem place_same {a b c d e f : Int} (h1 : 0 < c) (g1 : gl [a, b, c] = 1) (h2 : 0 < f) (g2 : gl [d, e, f] = 1) (k1 : b * f - c * e = 0) (k2 : c * d - a * f = 0) : [a, b, c] = [d, e, f] := by
  have e1 := low_mul3 (x := a) (y := b) (z := c) h2
  have e2 := low_mul3 (x := d) (y := e) (z := f) h1
  rw [low_one g1] at e1
  rw [low_one g2] at e2
  have r1 : a * f = d * c := by rw [Int.mul_comm d c]; omega
  have r2 : b * f = e * c := by rw [Int.mul_comm e c]; omega
  rw [r1, r2, Int.mul_comm c f] at e1
  rw [← e1, ← e2]
theorem cross_line {a b c d e f : Int} (h1 : isPlace (.tuple [.int a, .int b, .int c]) = true) (h2 : isPlace (.tuple [.int d, .int e, .int f]) = true) (h : [a, b, c] ≠ [d, e, f]) : b * f - c * e ≠ 0 ∨ c * d - a * f ≠ 0 := by
  obtain ⟨p1, g1⟩ := isPlace_def.mp h1
  obtain ⟨p2, g2⟩ := isPlace_def.mp h2
  by_cases k1 : b * f - c * e = 0
  · exact .inr fun k2 => h (place_same p1 g1 p2 g2 k1 k2)
  · exact .inl k1
theorem dot_one (a b c d e f : Int) : a * (b * f - c * e) + b * (c * d - a * f) + c * (a * e - b * d) = 0 := by grind
theorem dot_two (a b c d e f : Int) : d * (b * f - c * e) + e * (c * d - a * f) + f * (a * e - b * d) = 0 := by grind
theorem dot_low {a b c x y w : Int} (hw : w ≠ 0) (h : a * x + b * y + c * w = 0) : ∀ X Y W, lowest [x, y, w] = [X, Y, W] → a * X + b * Y + c * W = 0 := by
  intro X Y W e
  obtain ⟨g0, _⟩ := gl_le (ns := [x, y, w]) (x := w) (by simp) hw
  rw [low3] at e
  have k1 : x = X * ((gl [x, y, w] : Nat) : Int) := by
    have := Int.ediv_mul_cancel (dvd_gl (ns := [x, y, w]) (x := x) (by simp))
    rw [← (List.cons.inj e).1]
    omega
  have k2 : y = Y * ((gl [x, y, w] : Nat) : Int) := by
    have := Int.ediv_mul_cancel (dvd_gl (ns := [x, y, w]) (x := y) (by simp))
    rw [← (List.cons.inj (List.cons.inj e).2).1]
    omega
  have k3 : w = W * ((gl [x, y, w] : Nat) : Int) := by
    have := Int.ediv_mul_cancel (dvd_gl (ns := [x, y, w]) (x := w) (by simp))
    rw [← (List.cons.inj (List.cons.inj (List.cons.inj e).2).2).1]
    omega
  have hg : ((gl [x, y, w] : Nat) : Int) ≠ 0 := by omega
  generalize ((gl [x, y, w] : Nat) : Int) = g at k1 k2 k3 hg
  have : (a * X + b * Y + c * W) * g = 0 := by
    rw [← h, k1, k2, k3]
    grind
  rcases Int.mul_eq_zero.mp this with h | h
  · exact h
  · exact absurd h hg
theorem dot_placeOf {a b c x y w : Int} (hw : w ≠ 0) (h : a * x + b * y + c * w = 0) {X Y W : Int} (e : placeOf x y w = [X, Y, W]) : a * X + b * Y + c * W = 0 := by
  by_cases g : 0 < w
  · rw [placeOf_pos g] at e
    exact dot_low hw h _ _ _ e
  · rw [placeOf_neg g] at e
    refine dot_low (by omega) ?_ _ _ _ e
    rw [Int.mul_neg, Int.mul_neg, Int.mul_neg]
    omega
theorem meetOf_neg (x y w : Int) : meetOf (-x) (-y) (-w) = meetOf x y w := by
  unfold meetOf
  by_cases h : w = 0
  · subst h
    rw [if_pos rfl, if_pos (by decide)]
  · rw [if_neg h, if_neg (by omega)]
    have := placeOf_mul (x := x) (y := y) (w := w) (t := -1) h (by decide)
    rw [Int.mul_neg_one, Int.mul_neg_one, Int.mul_neg_one] at this
    rw [this]
theorem meet_swap (a b c d e f : Int) : meetD d e f a b c = meetD a b c d e f := by
  unfold meetD
  rw [← meetOf_neg (b * f - c * e)]
  congr 1 <;> grind
theorem meet_back (a b c d e f : Int) : meetD (-a) (-b) (-c) d e f = meetD a b c d e f := by
  unfold meetD
  rw [← meetOf_neg (b * f - c * e)]
  congr 1 <;> grind
theorem ib3 {a b c : Int} (h : ibD (.tuple [.int a, .int b, .int c]) = true) : a.natAbs < 2 ^ 250 ∧ b.natAbs < 2 ^ 250 ∧ c.natAbs < 2 ^ 250 := by
  simp only [ibD, ibAll, Bool.and_eq_true, decide_eq_true_eq] at h
  exact ⟨h.1, h.2.1, h.2.2.1⟩
theorem ib_lt {a b c : Int} (h : a.natAbs < 2 ^ 250 ∧ b.natAbs < 2 ^ 250 ∧ c.natAbs < 2 ^ 250) : Lt63 a b c := ⟨lt6_of h.1 (by decide), lt6_of h.2.1 (by decide), lt6_of h.2.2 (by decide)⟩
theorem log501 {n : Nat} (h : n < 2 ^ 501) : n.log2 < 1920 := log2_small (Nat.lt_of_lt_of_le h (Nat.pow_le_pow_right (by decide) (by decide)))
theorem rz_three {x y z : Int} (hx : x.natAbs.log2 < 1920) (hy : y.natAbs.log2 < 1920) (hz : z.natAbs.log2 < 1920) : Rz 3 1 (.tuple [.int x, .int y, .int z]) :=
  ((rza_cons (rz_int hx) (rza_cons (rz_int hy) (rza_cons (rz_int hz) rza_nil))).tuple).mono (by decide) (by decide)
theorem rz_meetOf {x y w : Int} (hx : x.natAbs < 2 ^ 501) (hy : y.natAbs < 2 ^ 501) (hw : w.natAbs < 2 ^ 501) : Rz 3 1 (meetOf x y w) := by
  unfold meetOf
  split
  · exact sz_none.toRz.mono (by decide) (by decide)
  · obtain ⟨X, Y, W, e, h1, h2, h3⟩ := placeOf_is x y w
    rw [e]
    exact rz_three (log_le h1 (log501 hx)) (log_le h2 (log501 hy)) (log_le h3 (log501 hw))
theorem rz_meetD {a b c d e f : Int} (h : a.natAbs < 2 ^ 250 ∧ b.natAbs < 2 ^ 250 ∧ c.natAbs < 2 ^ 250) (k : d.natAbs < 2 ^ 250 ∧ e.natAbs < 2 ^ 250 ∧ f.natAbs < 2 ^ 250) : Rz 3 1 (meetD a b c d e f) :=
  rz_meetOf (cross_lt h.2.1 k.2.2 h.2.2 k.2.1) (cross_lt h.2.2 k.1 h.1 k.2.2) (cross_lt h.1 k.2.1 h.2.1 k.1)
def rotI : Nat → Int × Int → Int × Int
  | 0, p => p
  | n + 1, p => (-(rotI n p).2, (rotI n p).1)
def movI (many : Nat) (mir : Bool) (s : Int) (a b : Int) : Int × Int := ((rotI many (if mir = true then (-a, b) else (a, b))).1 * s, (rotI many (if mir = true then (-a, b) else (a, b))).2 * s)
theorem rot_abs {n k : Nat} {p : Int × Int} (h1 : p.1.natAbs < 2 ^ k) (h2 : p.2.natAbs < 2 ^ k) : (rotI n p).1.natAbs < 2 ^ k ∧ (rotI n p).2.natAbs < 2 ^ k := by
  induction n with
  | zero => exact ⟨h1, h2⟩
  | succ n ih => exact ⟨by show (-(rotI n p).2).natAbs < _; rw [Int.natAbs_neg]; exact ih.2, ih.1⟩
structure Lin (many : Nat) (mir : Bool) (s α β γ δ : Int) : Prop where
  eq : ∀ a b, movI many mir s a b = (α * a + β * b, γ * a + δ * b)
  det : α * δ - β * γ = (if mir = true then -1 else 1) * (s * s)
theorem lin_of (many : Nat) (mir : Bool) (s : Int) : ∃ α β γ δ, Lin many mir s α β γ δ := by
  have rot : ∀ n : Nat, ∃ α β γ δ : Int, (∀ p : Int × Int, rotI n p = (α * p.1 + β * p.2, γ * p.1 + δ * p.2)) ∧ α * δ - β * γ = 1 := by
    intro n
    induction n with
    | zero => exact ⟨1, 0, 0, 1, fun p => by show p = _; simp, by decide⟩
    | succ n ih =>
      obtain ⟨α, β, γ, δ, h, hd⟩ := ih
      refine ⟨-γ, -δ, α, β, fun p => ?_, by grind⟩
      show (-(rotI n p).2, (rotI n p).1) = _
      rw [h p]
      refine Prod.ext ?_ rfl
      show -(γ * p.1 + δ * p.2) = -γ * p.1 + -δ * p.2
      grind
  obtain ⟨α, β, γ, δ, h, hd⟩ := rot many
  cases mir with
  | true =>
    refine ⟨-α * s, β * s, -γ * s, δ * s, fun a b => ?_, ?_⟩
    · unfold movI
      rw [if_pos rfl, h]
      refine Prod.ext ?_ ?_
      · show (α * -a + β * b) * s = -α * s * a + β * s * b
        grind
      · show (γ * -a + δ * b) * s = -γ * s * a + δ * s * b
        grind
    · rw [if_pos rfl]
      grind
  | false =>
    refine ⟨α * s, β * s, γ * s, δ * s, fun a b => ?_, ?_⟩
    · unfold movI
      rw [if_neg Bool.false_ne_true, h]
      refine Prod.ext ?_ ?_
      · show (α * a + β * b) * s = α * s * a + β * s * b
        grind
      · show (γ * a + δ * b) * s = γ * s * a + δ * s * b
        grind
    · rw [if_neg Bool.false_ne_true]
      grind
def tX (α β x : Int) (a b w : Int) : Int := α * a + β * b + x * w
theorem mov_det (α β γ δ x y a b c d e f r s t : Int) :
    (tX γ δ y a b c * f - c * tX γ δ y d e f) * tX α β x r s t + (c * tX α β x d e f - tX α β x a b c * f) * tX γ δ y r s t + (tX α β x a b c * tX γ δ y d e f - tX γ δ y a b c * tX α β x d e f) * t =
      (α * δ - β * γ) * ((b * f - c * e) * r + (c * d - a * f) * s + (a * e - b * d) * t) := by
  unfold tX
  grind
theorem dot_scale {x y z X Y Z : Int} (e : lowest [x, y, z] = [X, Y, Z]) (a b c : Int) : (X * a + Y * b + Z * c) * ((gl [x, y, z] : Nat) : Int) = x * a + y * b + z * c := by
  rw [low3] at e
  have k1 : x = X * ((gl [x, y, z] : Nat) : Int) := by
    have := Int.ediv_mul_cancel (dvd_gl (ns := [x, y, z]) (x := x) (by simp))
    rw [← (List.cons.inj e).1]
    omega
  have k2 : y = Y * ((gl [x, y, z] : Nat) : Int) := by
    have := Int.ediv_mul_cancel (dvd_gl (ns := [x, y, z]) (x := y) (by simp))
    rw [← (List.cons.inj (List.cons.inj e).2).1]
    omega
  have k3 : z = Z * ((gl [x, y, z] : Nat) : Int) := by
    have := Int.ediv_mul_cancel (dvd_gl (ns := [x, y, z]) (x := z) (by simp))
    rw [← (List.cons.inj (List.cons.inj (List.cons.inj e).2).2).1]
    omega
  generalize ((gl [x, y, z] : Nat) : Int) = g at k1 k2 k3 ⊢
  rw [k1, k2, k3]
  grind
theorem sgn_pos {k n : Int} (h : 0 < k) : sgn (n * k) = sgn n := by
  unfold sgn
  by_cases h1 : 0 < n
  · rw [if_pos h1, if_pos (Int.mul_pos h1 h)]
  · by_cases h2 : n < 0
    · have := Int.mul_neg_of_neg_of_pos h2 h
      rw [if_neg h1, if_pos h2, if_neg (by omega), if_pos this]
    · have h0 : n = 0 := by omega
      subst h0
      rw [Int.zero_mul]
theorem side_val {x y z X Y Z : Int} (e : lowest [x, y, z] = [X, Y, Z]) (g0 : 0 < gl [x, y, z]) (a b c : Int) : sgn (X * a + Y * b + Z * c) = sgn (x * a + y * b + z * c) := by
  rw [← dot_scale e a b c, sgn_pos (by omega)]
theorem crossI_swap (a b c d e f : Int) : crossI d e f a b c = [-(b * f - c * e), -(c * d - a * f), -(a * e - b * d)] := by
  unfold crossI
  congr 1
  · grind
  · congr 1
    · grind
    · congr 1
      grind
theorem low_swap {a b c d e f X Y Z : Int} (h : lowest (crossI a b c d e f) = [X, Y, Z]) : lowest (crossI d e f a b c) = [-X, -Y, -Z] := by
  rw [crossI_swap, low_neg3]
  unfold crossI at h
  rw [low3] at h
  rw [(List.cons.inj h).1, (List.cons.inj (List.cons.inj h).2).1, (List.cons.inj (List.cons.inj (List.cons.inj h).2).2).1]
theorem det_p (a b c d e f : Int) : (b * f - c * e) * a + (c * d - a * f) * b + (a * e - b * d) * c = 0 := by grind
theorem det_q (a b c d e f : Int) : (b * f - c * e) * d + (c * d - a * f) * e + (a * e - b * d) * f = 0 := by grind
theorem area_det (a b c d e f x y z : Int) : (d * z * c - a * f * z) * (y * f * c - b * f * z) - (e * z * c - b * f * z) * (x * f * c - a * f * z) = ((b * f - c * e) * x + (c * d - a * f) * y + (a * e - b * d) * z) * (c * f * z) := by grind
def midI (k a b c d e f : Int) : List Int := [a * f * (2 - k) + d * c * k, b * f * (2 - k) + e * c * k, 2 * c * f]
theorem mid_on (k a b c d e f : Int) : (b * f - c * e) * (a * f * (2 - k) + d * c * k) + (c * d - a * f) * (b * f * (2 - k) + e * c * k) + (a * e - b * d) * (2 * c * f) = 0 := by grind
theorem mid_cross1 (k a b c d e f : Int) : b * (2 * c * f) - c * (b * f * (2 - k) + e * c * k) = (b * f - c * e) * (k * c) := by grind
theorem mid_cross2 (k a b c d e f : Int) : c * (a * f * (2 - k) + d * c * k) - a * (2 * c * f) = (c * d - a * f) * (k * c) := by grind
theorem mid_cross3 (k a b c d e f : Int) : a * (b * f * (2 - k) + e * c * k) - b * (a * f * (2 - k) + d * c * k) = (a * e - b * d) * (k * c) := by grind
theorem cross_scale {x y z X Y Z : Int} (e : lowest [x, y, z] = [X, Y, Z]) (a b c : Int) : (b * Z - c * Y) * ((gl [x, y, z] : Nat) : Int) = b * z - c * y ∧ (c * X - a * Z) * ((gl [x, y, z] : Nat) : Int) = c * x - a * z ∧ (a * Y - b * X) * ((gl [x, y, z] : Nat) : Int) = a * y - b * x := by
  have h1 := dot_scale e 1 0 0
  have h2 := dot_scale e 0 1 0
  have h3 := dot_scale e 0 0 1
  generalize ((gl [x, y, z] : Nat) : Int) = g at h1 h2 h3 ⊢
  have k1 : X * g = x := by grind
  have k2 : Y * g = y := by grind
  have k3 : Z * g = z := by grind
  rw [← k1, ← k2, ← k3]
  refine ⟨?_, ?_, ?_⟩ <;> grind
theorem low_mid {k a b c d e f X Y Z : Int} (hk : 0 < k) (hc : 0 < c) (g0 : 0 < gl (midI k a b c d e f)) (h : lowest (midI k a b c d e f) = [X, Y, Z]) : lowest (crossI a b c X Y Z) = lowest (crossI a b c d e f) := by
  obtain ⟨h1, h2, h3⟩ := cross_scale h a b c
  rw [mid_cross1 k a b c d e f] at h1
  rw [mid_cross2 k a b c d e f] at h2
  rw [mid_cross3 k a b c d e f] at h3
  have hg : (0 : Int) < ((gl (midI k a b c d e f) : Nat) : Int) := by omega
  have e1 := low_mul3 (x := b * Z - c * Y) (y := c * X - a * Z) (z := a * Y - b * X) hg
  have e2 := low_mul3 (x := b * f - c * e) (y := c * d - a * f) (z := a * e - b * d) (Int.mul_pos hk hc)
  unfold midI at e1
  rw [h1, h2, h3] at e1
  unfold crossI
  rw [← e1, e2]
theorem mid_zero {k a b c d e f X Y Z : Int} (hk : 0 < k) (hc : 0 < c) (h : lowest (midI k a b c d e f) = [X, Y, Z]) (hn : b * f - c * e ≠ 0 ∨ c * d - a * f ≠ 0) : [a, b, c] ≠ [X, Y, Z] := by
  intro he
  obtain ⟨h1, h2, _⟩ := cross_scale h a b c
  rw [mid_cross1 k a b c d e f] at h1
  rw [mid_cross2 k a b c d e f] at h2
  cases he
  rw [show b * c - c * b = 0 by grind, Int.zero_mul] at h1
  rw [show c * a - a * c = 0 by grind, Int.zero_mul] at h2
  have kc := Int.mul_pos hk hc
  rcases hn with hn | hn
  · rcases Int.mul_eq_zero.mp h1.symm with h | h
    · exact hn h
    · omega
  · rcases Int.mul_eq_zero.mp h2.symm with h | h
    · exact hn h
    · omega
def cof0 (γ δ : Int) (n0 n1 : Int) : Int := δ * n0 - γ * n1
def cof1 (α β : Int) (n0 n1 : Int) : Int := α * n1 - β * n0
def cof2 (α β γ δ x y : Int) (n0 n1 n2 : Int) : Int := (β * y - δ * x) * n0 - (α * y - γ * x) * n1 + (α * δ - β * γ) * n2
theorem cof_cross0 (γ δ y a b c d e f : Int) : tX γ δ y a b c * f - c * tX γ δ y d e f = cof0 γ δ (b * f - c * e) (c * d - a * f) := by
  unfold tX cof0
  grind
theorem cof_cross1 (α β x a b c d e f : Int) : c * tX α β x d e f - tX α β x a b c * f = cof1 α β (b * f - c * e) (c * d - a * f) := by
  unfold tX cof1
  grind
theorem cof_cross2 (α β γ δ x y a b c d e f : Int) : tX α β x a b c * tX γ δ y d e f - tX γ δ y a b c * tX α β x d e f = cof2 α β γ δ x y (b * f - c * e) (c * d - a * f) (a * e - b * d) := by
  unfold tX cof2
  grind
theorem cof_dot (α β γ δ x y n0 n1 n2 r s t : Int) : cof0 γ δ n0 n1 * tX α β x r s t + cof1 α β n0 n1 * tX γ δ y r s t + cof2 α β γ δ x y n0 n1 n2 * t = (α * δ - β * γ) * (n0 * r + n1 * s + n2 * t) := by
  unfold tX cof0 cof1 cof2
  grind
theorem cof_meet0 (α β γ δ x y n0 n1 n2 m0 m1 m2 : Int) : cof1 α β n0 n1 * cof2 α β γ δ x y m0 m1 m2 - cof2 α β γ δ x y n0 n1 n2 * cof1 α β m0 m1 = tX α β x (n1 * m2 - n2 * m1) (n2 * m0 - n0 * m2) (n0 * m1 - n1 * m0) * (α * δ - β * γ) := by
  unfold tX cof1 cof2
  grind
theorem cof_meet1 (α β γ δ x y n0 n1 n2 m0 m1 m2 : Int) : cof2 α β γ δ x y n0 n1 n2 * cof0 γ δ m0 m1 - cof0 γ δ n0 n1 * cof2 α β γ δ x y m0 m1 m2 = tX γ δ y (n1 * m2 - n2 * m1) (n2 * m0 - n0 * m2) (n0 * m1 - n1 * m0) * (α * δ - β * γ) := by
  unfold tX cof0 cof2
  grind
theorem cof_meet2 (α β γ δ n0 n1 m0 m1 : Int) : cof0 γ δ n0 n1 * cof1 α β m0 m1 - cof1 α β n0 n1 * cof0 γ δ m0 m1 = (n0 * m1 - n1 * m0) * (α * δ - β * γ) := by
  unfold cof0 cof1
  grind
theorem meetOf_mul {x y w t : Int} (ht : t ≠ 0) : meetOf (x * t) (y * t) (w * t) = meetOf x y w := by
  unfold meetOf
  by_cases h : w = 0
  · rw [if_pos h, if_pos (by rw [h, Int.zero_mul])]
  · rw [if_neg h, if_neg (Int.mul_ne_zero h ht), placeOf_mul h ht]
theorem sgn_neg (n : Int) : sgn (-n) = -sgn n := by
  unfold sgn
  by_cases h : 0 < n
  · rw [if_pos h, if_neg (by omega), if_pos (by omega)]
  · by_cases h2 : n < 0
    · rw [if_neg h, if_pos h2, if_pos (by omega)]
      rfl
    · rw [if_neg h, if_neg h2, if_neg (by omega), if_neg (by omega)]
      rfl
theorem cof_zero {α β γ δ x y n0 n1 n2 : Int} (hd : α * δ - β * γ ≠ 0) (h0 : cof0 γ δ n0 n1 = 0) (h1 : cof1 α β n0 n1 = 0) : n0 = 0 ∧ n1 = 0 := by
  have k0 : (α * δ - β * γ) * n0 = α * cof0 γ δ n0 n1 + γ * cof1 α β n0 n1 := by
    unfold cof0 cof1
    grind
  have k1 : (α * δ - β * γ) * n1 = β * cof0 γ δ n0 n1 + δ * cof1 α β n0 n1 := by
    unfold cof0 cof1
    grind
  rw [h0, h1, Int.mul_zero, Int.mul_zero, Int.add_zero] at k0 k1
  exact ⟨(Int.mul_eq_zero.mp k0).resolve_left hd, (Int.mul_eq_zero.mp k1).resolve_left hd⟩
theorem cross_scale2 {x y z X Y Z a b c A B C : Int} (h1 : lowest [a, b, c] = [A, B, C]) (h2 : lowest [x, y, z] = [X, Y, Z]) :
    (B * Z - C * Y) * (((gl [a, b, c] : Nat) : Int) * ((gl [x, y, z] : Nat) : Int)) = b * z - c * y ∧ (C * X - A * Z) * (((gl [a, b, c] : Nat) : Int) * ((gl [x, y, z] : Nat) : Int)) = c * x - a * z ∧ (A * Y - B * X) * (((gl [a, b, c] : Nat) : Int) * ((gl [x, y, z] : Nat) : Int)) = a * y - b * x := by
  obtain ⟨k1, k2, k3⟩ := cross_scale h2 A B C
  have m1 := dot_scale h1 1 0 0
  have m2 := dot_scale h1 0 1 0
  have m3 := dot_scale h1 0 0 1
  generalize ((gl [x, y, z] : Nat) : Int) = g at k1 k2 k3 ⊢
  generalize ((gl [a, b, c] : Nat) : Int) = k at m1 m2 m3 ⊢
  have j1 : A * k = a := by grind
  have j2 : B * k = b := by grind
  have j3 : C * k = c := by grind
  rw [← j1, ← j2, ← j3]
  refine ⟨?_, ?_, ?_⟩
  · rw [show (B * Z - C * Y) * (k * g) = k * ((B * Z - C * Y) * g) by grind, k1]
    grind
  · rw [show (C * X - A * Z) * (k * g) = k * ((C * X - A * Z) * g) by grind, k2]
    grind
  · rw [show (A * Y - B * X) * (k * g) = k * ((A * Y - B * X) * g) by grind, k3]
    grind
theorem mov_side {α β γ δ x y a b c d e f r s t A B C D E F R S U X Y Z : Int} (hc : 0 < c) (hf : 0 < f) (ht : 0 < t)
    (h1 : lowest [tX α β x a b c, tX γ δ y a b c, c] = [A, B, C]) (h2 : lowest [tX α β x d e f, tX γ δ y d e f, f] = [D, E, F]) (h3 : lowest [tX α β x r s t, tX γ δ y r s t, t] = [R, S, U])
    (h4 : lowest (crossI A B C D E F) = [X, Y, Z]) (g4 : 0 < gl (crossI A B C D E F)) :
    sgn (X * R + Y * S + Z * U) = sgn ((α * δ - β * γ) * ((b * f - c * e) * r + (c * d - a * f) * s + (a * e - b * d) * t)) := by
  have p1 := (gl_le (ns := [tX α β x a b c, tX γ δ y a b c, c]) (x := c) (by simp) (by omega)).1
  have p2 := (gl_le (ns := [tX α β x d e f, tX γ δ y d e f, f]) (x := f) (by simp) (by omega)).1
  have p3 := (gl_le (ns := [tX α β x r s t, tX γ δ y r s t, t]) (x := t) (by simp) (by omega)).1
  rw [side_val (show lowest [B * F - C * E, C * D - A * F, A * E - B * D] = [X, Y, Z] from h4) g4 R S U]
  obtain ⟨k1, k2, k3⟩ := cross_scale2 h1 h2
  have q1 := dot_scale h3 (B * F - C * E) (C * D - A * F) (A * E - B * D)
  have md := mov_det α β γ δ x y a b c d e f r s t
  have w12 : (0 : Int) < ((gl [tX α β x a b c, tX γ δ y a b c, c] : Nat) : Int) * ((gl [tX α β x d e f, tX γ δ y d e f, f] : Nat) : Int) := Int.mul_pos (by omega) (by omega)
  have w3 : (0 : Int) < ((gl [tX α β x r s t, tX γ δ y r s t, t] : Nat) : Int) := by omega
  generalize ((gl [tX α β x a b c, tX γ δ y a b c, c] : Nat) : Int) * ((gl [tX α β x d e f, tX γ δ y d e f, f] : Nat) : Int) = w at k1 k2 k3 w12
  generalize ((gl [tX α β x r s t, tX γ δ y r s t, t] : Nat) : Int) = v at q1 w3
  rw [← md, ← k1, ← k2, ← k3, ← sgn_pos (n := (B * F - C * E) * R + (C * D - A * F) * S + (A * E - B * D) * U) w3, ← sgn_pos (n := ((B * F - C * E) * R + (C * D - A * F) * S + (A * E - B * D) * U) * v) w12]
  congr 1
  have q2 : ((B * F - C * E) * R + (C * D - A * F) * S + (A * E - B * D) * U) * v = tX α β x r s t * (B * F - C * E) + tX γ δ y r s t * (C * D - A * F) + t * (A * E - B * D) := by
    rw [← q1]
    grind
  rw [q2]
  generalize tX α β x r s t = P1
  generalize tX γ δ y r s t = P2
  grind
theorem mov_meet {α β γ δ x y n0 n1 n2 m0 m1 m2 O0 O1 O2 Q0 Q1 Q2 h k : Int} (hd : α * δ - β * γ ≠ 0) (hh : h ≠ 0) (hk : k ≠ 0) (e0 : O0 * h = cof0 γ δ n0 n1) (e1 : O1 * h = cof1 α β n0 n1) (e2 : O2 * h = cof2 α β γ δ x y n0 n1 n2)
    (f0 : Q0 * k = cof0 γ δ m0 m1) (f1 : Q1 * k = cof1 α β m0 m1) (f2 : Q2 * k = cof2 α β γ δ x y m0 m1 m2) :
    meetD O0 O1 O2 Q0 Q1 Q2 = meetOf (tX α β x (n1 * m2 - n2 * m1) (n2 * m0 - n0 * m2) (n0 * m1 - n1 * m0)) (tX γ δ y (n1 * m2 - n2 * m1) (n2 * m0 - n0 * m2) (n0 * m1 - n1 * m0)) (n0 * m1 - n1 * m0) := by
  unfold meetD
  have l := meetOf_mul (x := O1 * Q2 - O2 * Q1) (y := O2 * Q0 - O0 * Q2) (w := O0 * Q1 - O1 * Q0) (Int.mul_ne_zero hh hk)
  have r := meetOf_mul (x := tX α β x (n1 * m2 - n2 * m1) (n2 * m0 - n0 * m2) (n0 * m1 - n1 * m0)) (y := tX γ δ y (n1 * m2 - n2 * m1) (n2 * m0 - n0 * m2) (n0 * m1 - n1 * m0)) (w := n0 * m1 - n1 * m0) hd
  rw [← l, ← r, ← cof_meet0, ← cof_meet1, ← cof_meet2, ← e0, ← e1, ← e2, ← f0, ← f1, ← f2]
  congr 1 <;> grind
theorem mov_place {α β γ δ x y X Y W A B C g : Int} (hg : g ≠ 0) (hC : C ≠ 0) (e0 : A * g = X) (e1 : B * g = Y) (e2 : C * g = W) : meetOf (tX α β x X Y W) (tX γ δ y X Y W) W = .tuple ((placeOf (tX α β x A B C) (tX γ δ y A B C) C).map .int) := by
  have k0 : tX α β x X Y W = tX α β x A B C * g := by
    unfold tX
    grind
  have k1 : tX γ δ y X Y W = tX γ δ y A B C * g := by
    unfold tX
    grind
  rw [k0, k1, ← e2, meetOf_mul hg]
  unfold meetOf
  rw [if_neg hC]
/-! comprehensions read -/
theorem comp_map {dg : DG} {de : DE} {ρ : Env} (g : PyData → PyData) : ∀ (xs acc : List PyData) {Q : List PyData → Prop}, (∀ x ∈ xs, ∀ k : PyData → Prop, k (g x) → dg x ρ fun ρ1 => de ρ1 k) → Q (acc ++ xs.map g) → dComp dg dTYes de ρ xs acc Q
  | [], acc, Q, _, q => by
    rw [List.map_nil, List.append_nil] at q
    exact q
  | x :: xs, acc, Q, h, q => h x List.mem_cons_self _ (comp_map g xs _ (fun y hy => h y (List.mem_cons_of_mem _ hy)) (by
    rw [List.append_assoc]
    exact q))
theorem comp_filt {dg : DG} {dt : DT} {de : DE} {ρ : Env} (p : PyData → Bool) (g : PyData → PyData) : ∀ (xs acc : List PyData) {Q : List PyData → Prop}, (∀ x ∈ xs, ∀ (k1 : PyData → Prop) (k2 : Prop), (p x = true → k1 (g x)) → (p x = false → k2) → dg x ρ fun ρ1 => dt ρ1 fun b => iteB b (de ρ1 k1) k2) →
    Q (acc ++ (xs.filter p).map g) → dComp dg dt de ρ xs acc Q
  | [], acc, Q, _, q => by
    rw [List.filter_nil, List.map_nil, List.append_nil] at q
    exact q
  | x :: xs, acc, Q, h, q => h x List.mem_cons_self _ _ (fun hp => comp_filt p g xs _ (fun y hy => h y (List.mem_cons_of_mem _ hy)) (by
      rw [List.filter_cons, if_pos hp] at q
      rw [List.append_assoc]
      exact q)) (fun hp => comp_filt p g xs _ (fun y hy => h y (List.mem_cons_of_mem _ hy)) (by
      rw [List.filter_cons, if_neg (by rw [hp]; exact Bool.false_ne_true)] at q
      exact q))
theorem comp_all {dg : DG} {de : DE} {ρ : Env} (p : PyData → Prop) : ∀ (xs acc : List PyData) {Q : List PyData → Prop}, (∀ x ∈ xs, ∀ k : PyData → Prop, (∀ y, p y → k y) → dg x ρ fun ρ1 => de ρ1 k) → (∀ ys : List PyData, ys.length = xs.length → (∀ y ∈ ys, p y) → Q (acc ++ ys)) → dComp dg dTYes de ρ xs acc Q
  | [], acc, Q, _, q => by
    have := q [] rfl (fun y hy => by cases hy)
    rw [List.append_nil] at this
    exact this
  | x :: xs, acc, Q, h, q => h x List.mem_cons_self _ fun y hy => comp_all p xs _ (fun z hz => h z (List.mem_cons_of_mem _ hz)) fun ys hl hp => by
    rw [List.append_assoc]
    exact q (y :: ys) (by rw [List.length_cons, List.length_cons, hl]) fun z hz => by
      rcases List.mem_cons.mp hz with rfl | hz
      · exact hy
      · exact hp z hz
theorem all_map {α : Type} (f : α → Bool) (xs : List α) : ((xs.map f).all id) = xs.all f := by
  rw [List.all_map]
  rfl
theorem bools {f : PyData → Bool} {xs : List PyData} {Q : PyData → Prop} (q : Q (.bool (xs.all f))) : ∃ bs : List Bool, [PyData.list (xs.map fun x => .bool (f x))] = [PyData.list (bs.map .bool)] ∧ Q (.bool (bs.all id)) :=
  ⟨xs.map f, by rw [List.map_map]; rfl, by rw [all_map]; exact q⟩
/-- loops: I of what is left to walk -/
theorem loop_ind {g : DG} {b : DS} {D : DEnds} (I : List PyData → Env → Prop) (e : ∀ ρ, I [] ρ → D.nx ρ)
    (s : ∀ x r ρ, I (x :: r) ρ → ∀ N : Env → Prop, (∀ ρ', I r ρ' → N ρ') → g x ρ fun ρ1 => b { nx := N, ct := N, bk := D.nx, rt := D.rt } ρ1) : ∀ (xs : List PyData) {ρ : Env}, I xs ρ → dLoop g b D xs ρ
  | [], ρ, i => e ρ i
  | x :: r, ρ, i => s x r ρ i _ fun ρ' i' => loop_ind I e s r i'
/-- while: I with a number that falls -/
theorem wh_ind {c : DT} {b : DS} {D : DEnds} (I : Nat → Env → Prop)
    (s : ∀ n ρ, I n ρ → ∀ N : Env → Prop, (∀ m ρ', m < n → I m ρ' → N ρ') → c ρ fun k => iteB k (b { nx := N, ct := N, bk := D.nx, rt := D.rt } ρ) (D.nx ρ)) {n : Nat} {ρ : Env} (i : I n ρ) : dWhile c b D ρ := by
  have h : ∀ (k n : Nat) (ρ : Env), n < k → I n ρ → dWh c b D k ρ := by
    intro k
    induction k with
    | zero => intro n ρ h; omega
    | succ k ih => exact fun n ρ h i => s n ρ i _ fun m ρ' hm i' => ih m ρ' (by omega) i'
  exact ⟨n + 1, h (n + 1) n ρ (Nat.lt_succ_self n) i⟩
/-! gcd -/
def dGcd3 : RNd := fun xs Q => onCons xs fun x r => onTwo r fun y z => onInt x fun a => onInt y fun b => onInt z fun c => Q (.int ((Nat.gcd (Nat.gcd a.natAbs b.natAbs) c.natAbs : Nat) : Int))
theorem sn_gcd3 {f : Fx} : SN f rGcd3 dGcd3 := fun L σ H ρ vs xs Q R r d q k => by
  replace q := inv_cons q
  obtain ⟨x, r', rfl, q⟩ := q
  replace q := inv_two q
  obtain ⟨y, z, rfl, q⟩ := q
  replace q := inv_int q
  obtain ⟨a, rfl, q⟩ := q
  replace q := inv_int q
  obtain ⟨b, rfl, q⟩ := q
  replace q := inv_int q
  obtain ⟨c, rfl, q⟩ := q
  cases d with
  | cons d1 d =>
    cases d with
    | cons d2 d =>
      cases d with
      | cons d3 d =>
        cases d
        cases d1
        cases d2
        cases d3
        exact ⟨a, b, c, rfl, k _ H _ r.self (.int _) q⟩
abbrev tr3 (a b c : Int) : PyData := .tuple [.int a, .int b, .int c]
abbrev trip (l : List Int) : PyData := .tuple (l.map .int)
def Short (x : PyData) : Prop := byD x (n := True) (b := fun _ => True) (i := fun _ => True) (z := fun _ => True) (l := fun ds => ds.length ≤ 100000) (t := fun ds => ds.length ≤ 100000) (d := fun _ => True)
def dGcd2 : RNd := fun xs Q => onTwo xs fun y z => onInt y fun b => onInt z fun c => Q (.int ((Nat.gcd b.natAbs c.natAbs : Nat) : Int))
end Ey
set_option exponentiation.threshold 3000
/-! ### mathematics of plans -/
namespace Ey
open PySem PySem.Spec PyProof.Rows L2
theorem df_lt {x y : Int} {n : Nat} (a : x.natAbs < 2 ^ n) (b : y.natAbs < 2 ^ n) : (x - y).natAbs < 2 ^ (n + 1) := by
  rw [Nat.pow_succ]
  have := Int.natAbs_sub_le x y
  omega
/-- twice the signed area of (a, b), (c, d), (e, f) -/
def turnI (a b c d e f : Int) : Int := (c - a) * (f - b) - (d - b) * (e - a)
theorem nat_mul {x y : Int} {m n : Nat} (a : x.natAbs < 2 ^ m) (b : y.natAbs < 2 ^ n) : (x * y).natAbs < 2 ^ (m + n) := by
  rw [Int.natAbs_mul, Nat.pow_add]
  exact Nat.mul_lt_mul'' a b
def Sm (a b : Int) : Prop := a.natAbs < 2 ^ 250 ∧ b.natAbs < 2 ^ 250
theorem turn_lt {a b c d e f : Int} (h1 : Sm a b) (h2 : Sm c d) (h3 : Sm e f) : (turnI a b c d e f).natAbs < 2 ^ 503 := by
  have p1 := nat_mul (df_lt h2.1 h1.1) (df_lt h3.2 h1.2)
  have p2 := nat_mul (df_lt h2.2 h1.2) (df_lt h3.1 h1.1)
  exact df_lt p1 p2
def mnP (p q : Int × Int) : Int × Int := if ltP q.1 q.2 p.1 p.2 = true then q else p
def mxP (p q : Int × Int) : Int × Int := if ltP p.1 p.2 q.1 q.2 = true then q else p
theorem minP_rd {p q : Int × Int} {Q : PyData → Prop} (h : Q (prD (mnP p q).1 (mnP p q).2)) : dMinP [prD p.1 p.2, prD q.1 q.2] Q := by
  refine .inr ⟨_, _, _, _, rfl, ?_⟩
  unfold mnP at h
  cases e : ltP q.1 q.2 p.1 p.2 with
  | true =>
    rw [e, if_pos rfl] at h
    exact h
  | false =>
    rw [e, if_neg (by decide)] at h
    exact h
theorem maxP_rd {p q : Int × Int} {Q : PyData → Prop} (h : Q (prD (mxP p q).1 (mxP p q).2)) : dMaxP [prD p.1 p.2, prD q.1 q.2] Q := by
  refine .inr ⟨_, _, _, _, rfl, ?_⟩
  unfold mxP at h
  cases e : ltP p.1 p.2 q.1 q.2 with
  | true =>
    rw [e, if_pos rfl] at h
    exact h
  | false =>
    rw [e, if_neg (by decide)] at h
    exact h
/-- whether two walls have a common point that is an end of neither, or more than one -/
def clashB (a b c d e f g h : Int) : Bool :=
  if turnI a b c d e f == turnI a b c d g h && turnI a b c d g h == 0 then
    (fun lo hi : Int × Int => ltP lo.1 lo.2 hi.1 hi.2) (mxP (mnP (a, b) (c, d)) (mnP (e, f) (g, h))) (mnP (mxP (a, b) (c, d)) (mxP (e, f) (g, h)))
  else decide (turnI a b c d e f * turnI a b c d g h < 0) && decide (turnI e f g h a b * turnI e f g h c d < 0)
def wallD (n : Str) (a b c d : Int) : PyData := .tuple [.str n, prD a b, prD c d]
/-! walls on one line, by one coordinate -/
def mn1 (i j : Int) : Int := if j < i then j else i
def mx1 (i j : Int) : Int := if i < j then j else i
section
variable {S : Int × Int → Prop} {π : Int × Int → Int} (hS : ∀ p q, S p → S q → ltP p.1 p.2 q.1 q.2 = decide (π p < π q))
include hS
theorem mnP_by {p q : Int × Int} (hp : S p) (hq : S q) : S (mnP p q) ∧ π (mnP p q) = mn1 (π p) (π q) := by
  unfold mnP mn1
  rw [hS q p hq hp]
  by_cases h : π q < π p
  · rw [decide_eq_true h, if_pos rfl, if_pos h]
    exact ⟨hq, rfl⟩
  · rw [decide_eq_false h, if_neg (by decide), if_neg h]
    exact ⟨hp, rfl⟩
theorem mxP_by {p q : Int × Int} (hp : S p) (hq : S q) : S (mxP p q) ∧ π (mxP p q) = mx1 (π p) (π q) := by
  unfold mxP mx1
  rw [hS p q hp hq]
  by_cases h : π p < π q
  · rw [decide_eq_true h, if_pos rfl, if_pos h]
    exact ⟨hq, rfl⟩
  · rw [decide_eq_false h, if_neg (by decide), if_neg h]
    exact ⟨hp, rfl⟩
theorem over_by {p q r s : Int × Int} (hp : S p) (hq : S q) (hr : S r) (hs : S s) :
    (fun lo hi : Int × Int => ltP lo.1 lo.2 hi.1 hi.2) (mxP (mnP p q) (mnP r s)) (mnP (mxP p q) (mxP r s)) = decide (mx1 (mn1 (π p) (π q)) (mn1 (π r) (π s)) < mn1 (mx1 (π p) (π q)) (mx1 (π r) (π s))) := by
  have a := mnP_by hS hp hq
  have b := mnP_by hS hr hs
  have c := mxP_by hS hp hq
  have d := mxP_by hS hr hs
  have e := mxP_by hS a.1 b.1
  have f := mnP_by hS c.1 d.1
  show ltP _ _ _ _ = _
  rw [hS _ _ e.1 f.1, e.2, f.2, a.2, b.2, c.2, d.2]
end
theorem over_x {a b c d e f g h : Int} (hne : a ≠ c) (h1 : turnI a b c d e f = 0) (h2 : turnI a b c d g h = 0) :
    (fun lo hi : Int × Int => ltP lo.1 lo.2 hi.1 hi.2) (mxP (mnP (a, b) (c, d)) (mnP (e, f) (g, h))) (mnP (mxP (a, b) (c, d)) (mxP (e, f) (g, h))) = decide (mx1 (mn1 a c) (mn1 e g) < mn1 (mx1 a c) (mx1 e g)) := by
  unfold turnI at h1 h2
  have cn : c - a ≠ 0 := by omega
  let S : Int × Int → Prop := fun p => (c - a) * (p.2 - b) = (d - b) * (p.1 - a)
  have hS : ∀ p q, S p → S q → ltP p.1 p.2 q.1 q.2 = decide (p.1 < q.1) := by
    intro p q hp hq
    unfold ltP
    by_cases he : p.1 = q.1
    · rw [if_pos he]
      have : (c - a) * (p.2 - q.2) = 0 := by
        have h1 : (c - a) * (p.2 - b) = (d - b) * (p.1 - a) := hp
        have h2 : (c - a) * (q.2 - b) = (d - b) * (q.1 - a) := hq
        rw [he] at h1
        grind
      rcases Int.mul_eq_zero.mp this with z | z
      · exact absurd z cn
      · rw [decide_eq_false (by omega), decide_eq_false (by omega)]
    · rw [if_neg he]
  exact over_by (S := S) (π := fun p => p.1) hS (p := (a, b)) (q := (c, d)) (r := (e, f)) (s := (g, h)) (by show (c - a) * (b - b) = (d - b) * (a - a); grind) (by show (c - a) * (d - b) = (d - b) * (c - a); grind)
    (by show (c - a) * (f - b) = (d - b) * (e - a); grind) (by show (c - a) * (h - b) = (d - b) * (g - a); grind)
theorem over_y {a b c d e f g h : Int} (hx : a = c) (hne : b ≠ d) (h1 : turnI a b c d e f = 0) (h2 : turnI a b c d g h = 0) :
    (fun lo hi : Int × Int => ltP lo.1 lo.2 hi.1 hi.2) (mxP (mnP (a, b) (c, d)) (mnP (e, f) (g, h))) (mnP (mxP (a, b) (c, d)) (mxP (e, f) (g, h))) = decide (mx1 (mn1 b d) (mn1 f h) < mn1 (mx1 b d) (mx1 f h)) := by
  unfold turnI at h1 h2
  subst hx
  have z1 : (d - b) * (e - a) = 0 := by grind
  have z2 : (d - b) * (g - a) = 0 := by grind
  have ee : e = a := by
    rcases Int.mul_eq_zero.mp z1 with z | z <;> omega
  have eg : g = a := by
    rcases Int.mul_eq_zero.mp z2 with z | z <;> omega
  refine over_by (S := fun p => p.1 = a) (π := fun p => p.2) (fun p q hp hq => ?_) (p := (a, b)) (q := (a, d)) (r := (e, f)) (s := (g, h)) rfl rfl ee eg
  unfold ltP
  rw [if_pos (hp.trans hq.symm)]
/-! ### first pairs -/
def FirstIs (t : Nat → Nat → Bool) (n : Nat) : Option (Nat × Nat) → Prop
  | none => ∀ i j, i < j → j < n → t i j = false
  | some (i, j) => i < j ∧ j < n ∧ t i j = true ∧ ∀ i' j', i' < j' → j' < n → (i' < i ∨ (i' = i ∧ j' < j)) → t i' j' = false
theorem first_one {t : Nat → Nat → Bool} {n : Nat} {r r' : Option (Nat × Nat)} (h : FirstIs t n r) (h' : FirstIs t n r') : r = r' := by
  match r, r', h, h' with
  | none, none, _, _ => rfl
  | none, some (i, j), h, h' =>
    have := h i j h'.1 h'.2.1
    rw [h'.2.2.1] at this
    cases this
  | some (i, j), none, h, h' =>
    have := h' i j h.1 h.2.1
    rw [h.2.2.1] at this
    cases this
  | some (i, j), some (k, l), h, h' =>
    obtain ⟨a1, a2, a3, a4⟩ := h
    obtain ⟨b1, b2, b3, b4⟩ := h'
    have n1 : ¬ (k < i ∨ (k = i ∧ l < j)) := fun z => by
      rw [a4 k l b1 b2 z] at b3
      cases b3
    have n2 : ¬ (i < k ∨ (i = k ∧ j < l)) := fun z => by
      rw [b4 i j a1 a2 z] at a3
      cases a3
    have e1 : i = k := by omega
    have e2 : j = l := by omega
    rw [e1, e2]
def firD : Option (Nat × Nat) → PyData
  | none => .none
  | some (i, j) => .tuple [.str ("meet" : Str), .int (i : Nat), .int (j : Nat)]
/-! ### names -/
def lettersS : Str := ("abcdefghijklmnopqrstuvwxyz" : Str)
def digitsS : Str := ("0123456789" : Str)
def signsS : Str := ("abcdefghijklmnopqrstuvwxyz0123456789" : Str)
theorem signs_app : lettersS ++ digitsS = signsS := by decide +kernel
def headIn (z : List Nat) : Bool := match z with
  | [] => false
  | c :: _ => decide (c ∈ lettersS.cps.toList)
def nameB : PyData → Bool
  | .str z => decide (1 ≤ z.length) && decide (z.length ≤ 8) && headIn z.cps.toList && z.cps.toList.all fun c => decide (c ∈ signsS.cps.toList)
  | _ => false
def segB : PyData → Bool
  | .tuple [n, p, q] => nameB n && (isInts 2 p && (isInts 2 q && !PyData.eqv p q))
  | _ => false
structure Wl where
  n : Str
  a : Int
  b : Int
  c : Int
  d : Int
def Wl.D (w : Wl) : PyData := wallD w.n w.a w.b w.c w.d
def Wl.Ok (w : Wl) : Prop := Sm w.a w.b ∧ Sm w.c w.d ∧ (w.a ≠ w.c ∨ w.b ≠ w.d)
def wOf : PyData → Wl
  | .tuple [.str n, .tuple [.int a, .int b], .tuple [.int c, .int d]] => ⟨n, a, b, c, d⟩
  | _ => ⟨"", 0, 0, 1, 0⟩
theorem wOf_D (w : Wl) : wOf w.D = w := rfl
theorem eqv2 (a b c d : Int) : PyData.eqv (prD a b) (prD c d) = decide ([a, b] = [c, d]) := eqv_ints [a, b] [c, d]
theorem seg_is {x : PyData} (h : segB x = true) : ∃ w : Wl, x = w.D ∧ nameB (.str w.n) = true ∧ (w.a ≠ w.c ∨ w.b ≠ w.d) := by
  unfold segB at h
  split at h
  · rename_i n p q
    simp only [Bool.and_eq_true] at h
    obtain ⟨h1, h2, h3, h4⟩ := h
    obtain ⟨a, b, rfl⟩ := isInts2 h2
    obtain ⟨c, d, rfl⟩ := isInts2 h3
    cases n with
    | str n =>
      refine ⟨⟨n, a, b, c, d⟩, rfl, h1, ?_⟩
      rw [show PyData.eqv (.tuple [.int a, .int b]) (.tuple [.int c, .int d]) = decide ([a, b] = [c, d]) from eqv2 a b c d] at h4
      have h5 : ¬ [a, b] = [c, d] := fun z => by
        rw [decide_eq_true z] at h4
        cases h4
      show a ≠ c ∨ b ≠ d
      by_cases e1 : a = c
      · exact .inr fun e2 => h5 (by rw [e1, e2])
      · exact .inl e1
    | _ => cases h1
  · cases h
def wname : PyData → Ky
  | .tuple (.str n :: _) => .inr n
  | _ => .inr ""
def apartB : PyData → Bool
  | .tuple ws => ws.all segB && decide ((ws.map wname).Nodup)
  | _ => false
theorem segs_is : ∀ {ws : List PyData}, ws.all segB = true → ∃ wl : List Wl, ws = wl.map Wl.D ∧ ∀ w ∈ wl, nameB (.str w.n) = true ∧ (w.a ≠ w.c ∨ w.b ≠ w.d)
  | [], _ => ⟨[], rfl, fun _ h => by cases h⟩
  | x :: ws, h => by
    rw [List.all_cons, Bool.and_eq_true] at h
    obtain ⟨w, rfl, h1⟩ := seg_is h.1
    obtain ⟨wl, rfl, h2⟩ := segs_is h.2
    exact ⟨w :: wl, rfl, fun v hv => by
      rcases List.mem_cons.mp hv with rfl | hv
      · exact h1
      · exact h2 v hv⟩
def clashW (v w : Wl) : Bool := clashB v.a v.b v.c v.d w.a w.b w.c w.d
def clashAt (wl : List Wl) (i j : Nat) : Bool := match wl[i]?, wl[j]? with
  | some v, some w => clashW v w
  | _, _ => false
def wlOf : PyData → List Wl
  | .tuple ws => ws.map wOf
  | _ => []
theorem wlOf_D (wl : List Wl) : wlOf (.tuple (wl.map Wl.D)) = wl := by
  show (wl.map Wl.D).map wOf = wl
  rw [List.map_map]
  exact List.map_id wl
noncomputable def freeB (wl : List Wl) : Bool := @decide (∀ i j, i < j → j < wl.length → clashAt wl i j = false) (Classical.propDecidable _)
noncomputable def planB (x : PyData) : Bool := apartB x && freeB (wlOf x)
theorem free_first {wl : List Wl} {r : Option (Nat × Nat)} (h : FirstIs (clashAt wl) wl.length r) : freeB wl = isNone (firD r) := by
  unfold freeB
  match r, h with
  | none, h => exact @decide_eq_true _ (Classical.propDecidable _) h
  | some (i, j), h =>
    refine @decide_eq_false _ (Classical.propDecidable _) fun z => ?_
    have := z i j h.1 h.2.1
    rw [h.2.2.1] at this
    cases this
/-! ### what fits -/
abbrev Fit (x : PyData) : Prop := Sz 3000 40 x
theorem sza_inv {n m : Nat} {d : PyData} {ds : List PyData} (h : SzA n m (d :: ds)) : Sz n m d ∧ SzA n m ds := by
  obtain ⟨⟨a, b, c, e⟩, f⟩ := h
  simp only [PyData.showableAll, PyData.leavesShortAll, PyData.bulkAll, PyData.depthAll, ibAll, Bool.and_eq_true] at a b c e f
  exact ⟨⟨⟨a.1, b.1, by omega, by omega⟩, f.1⟩, ⟨⟨a.2, b.2, by omega, by omega⟩, f.2⟩⟩
theorem sza_mem {n m : Nat} : ∀ {ds : List PyData}, SzA n m ds → ∀ d ∈ ds, Sz n m d
  | d :: ds, h, x, hx => by
    rcases List.mem_cons.mp hx with rfl | hx
    · exact (sza_inv h).1
    · exact sza_mem (sza_inv h).2 x hx
theorem sz_tup {n m : Nat} {ds : List PyData} (h : Sz n m (.tuple ds)) : SzA n m ds := by
  obtain ⟨⟨a, b, c, e⟩, f⟩ := h
  simp only [PyData.showable, PyData.leavesShort, PyData.bulk, PyData.depth, ibD] at a b c e f
  exact ⟨⟨a, b, c, by omega⟩, f⟩
theorem sz_lst {n m : Nat} {ds : List PyData} (h : Sz n m (.list ds)) : SzA n m ds := by
  obtain ⟨⟨a, b, c, e⟩, f⟩ := h
  simp only [PyData.showable, PyData.leavesShort, PyData.bulk, PyData.depth, ibD] at a b c e f
  exact ⟨⟨a, b, c, by omega⟩, f⟩
theorem sz_tlen {n m : Nat} {ds : List PyData} (h : Sz n m (.tuple ds)) : ds.length ≤ n := Nat.le_trans (bulk_len ds) (sz_tup h).bk
theorem sz_llen {n m : Nat} {ds : List PyData} (h : Sz n m (.list ds)) : ds.length ≤ n := Nat.le_trans (bulk_len ds) (sz_lst h).bk
theorem sz_slen {n m : Nat} {z : Str} (h : Sz n m (.str z)) : z.length ≤ n := h.bk
theorem Fit.short {x : PyData} (h : Fit x) : Short x := by
  cases x with
  | tuple ds => exact Nat.le_trans (sz_tlen h) (by decide)
  | list ds => exact Nat.le_trans (sz_llen h) (by decide)
  | _ => trivial
theorem Fit.mem {ds : List PyData} (h : Fit (.tuple ds)) : ∀ d ∈ ds, Fit d := sza_mem (sz_tup h)
theorem fit_wall {w : Wl} (h : Fit w.D) : Sm w.a w.b ∧ Sm w.c w.d := by
  have h1 := Fit.mem h (prD w.a w.b) (by simp [wallD])
  have h2 := Fit.mem h (prD w.c w.d) (by simp [wallD])
  have i : ∀ {x : Int}, Fit (.int x) → x.natAbs < 2 ^ 250 := fun h => ib_int h.ib
  exact ⟨⟨i (Fit.mem h1 _ (by simp)), i (Fit.mem h1 _ (by simp))⟩, ⟨i (Fit.mem h2 _ (by simp)), i (Fit.mem h2 _ (by simp))⟩⟩
theorem seg3 (n p r : PyData) : segB (.tuple [n, p, r]) = (nameB n && (isInts 2 p && (isInts 2 r && !PyData.eqv p r))) := rfl
theorem seg_len {xs : List PyData} (h : xs.length ≠ 3) : segB (.tuple xs) = false := by
  match xs, h with
  | [], _ => rfl
  | [_], _ => rfl
  | [_, _], _ => rfl
  | [_, _, _], h => exact absurd rfl h
  | _ :: _ :: _ :: _ :: _, _ => rfl
theorem three {xs : List PyData} (h : xs.length = 3) : ∃ n p r, xs = [n, p, r] := by
  match xs, h with
  | [n, p, r], _ => exact ⟨n, p, r, rfl⟩
theorem eqn (i j : Nat) : PyData.eqv (.int (i : Nat)) (.int (j : Nat)) = decide (i = j) := by
  show (((i : Nat) : Int) == ((j : Nat) : Int)) = _
  rw [Bool.eq_iff_iff, decide_eq_true_iff, beq_iff_eq]
  omega
theorem rng_nil (lo : Int) : rngD lo 0 = [] := rfl
theorem rng_cons (lo : Int) (n : Nat) : rngD lo (n + 1) = .int lo :: rngD (lo + 1) n := by
  unfold rngD
  rw [List.range_succ_eq_map, List.map_cons, List.map_map]
  congr 1
  · congr 1
    simp
  · congr 1
    funext k
    show PyData.int _ = PyData.int _
    congr 1
    simp
    omega
theorem rng_at {lo : Int} {n : Nat} {x : PyData} {r : List PyData} (h : x :: r = rngD lo n) : ∃ m, n = m + 1 ∧ x = .int lo ∧ r = rngD (lo + 1) m := by
  cases n with
  | zero =>
    rw [rng_nil] at h
    cases h
  | succ m =>
    rw [rng_cons] at h
    cases h
    exact ⟨m, rfl, rfl, rfl⟩
theorem rng_none {lo : Int} {n : Nat} (h : [] = rngD lo n) : n = 0 := by
  cases n with
  | zero => rfl
  | succ m =>
    rw [rng_cons] at h
    cases h
theorem ix_at {xs : List PyData} {n : Nat} {x : PyData} (h : xs[n]? = some x) {Q : PyData → Prop} (q : Q x) : onSome (atI xs (n : Int)) Q := by
  rw [atI_nn, h]
  exact q
theorem compU {dg : DG} {de : DE} {ρ : Env} (g : PyData → Ky) {Q : List Ky → Prop} : ∀ (xs : List PyData) (acc : List Ky), (∀ x ∈ xs, ∀ k : PyData → Prop, k (kD (g x)) → dg x ρ fun ρ1 => de ρ1 k) → Q (uniq acc (xs.map g)) → dCompK dg dTYes de ρ xs acc Q
  | [], acc, _, q => q
  | x :: xs, acc, h, q => by
    refine h x List.mem_cons_self _ ?_
    have ih := compU g xs (addU acc (g x)) (fun y hy => h y (List.mem_cons_of_mem _ hy)) q
    cases e : g x with
    | inl i =>
      rw [e] at ih
      exact ih
    | inr z =>
      rw [e] at ih
      exact ih
theorem uniq_beq (ks : List Ky) : PyData.eqv (.int ((uniq [] ks).length : Nat)) (.int (ks.length : Nat)) = decide ks.Nodup := by
  rw [eqn, decide_eq_decide]
  have := uniq_eq ks [] List.nodup_nil
  rw [List.nil_append, List.length_nil, Nat.zero_add] at this
  exact this
theorem at_map {wl : List Wl} {k : Nat} (h : k < wl.length) : (wl.map Wl.D)[k]? = some (wl[k].D) := by
  rw [List.getElem?_map, List.getElem?_eq_getElem h]
  rfl
theorem clash_at {wl : List Wl} {k l : Nat} (h : k < wl.length) (h2 : l < wl.length) : clashAt wl k l = clashW wl[k] wl[l] := by
  unfold clashAt
  rw [List.getElem?_eq_getElem h, List.getElem?_eq_getElem h2]
theorem wname_D (w : Wl) : wname w.D = .inr w.n := rfl
theorem apart_is {x : PyData} (h : apartB x = true) : ∃ wl : List Wl, x = .tuple (wl.map Wl.D) ∧ (∀ w ∈ wl, nameB (.str w.n) = true ∧ (w.a ≠ w.c ∨ w.b ≠ w.d)) := by
  unfold apartB at h
  split at h
  · rw [Bool.and_eq_true] at h
    obtain ⟨wl, rfl, h2⟩ := segs_is h.1
    exact ⟨wl, rfl, h2⟩
  · cases h
theorem ok_fit {wl : List Wl} (hf : Fit (.tuple (wl.map Wl.D))) (h : ∀ w ∈ wl, nameB (.str w.n) = true ∧ (w.a ≠ w.c ∨ w.b ≠ w.d)) : ∀ w ∈ wl, Wl.Ok w := fun w hw => by
  have f := fit_wall (Fit.mem hf w.D (List.mem_map_of_mem hw))
  exact ⟨f.1, f.2, (h w hw).2⟩
theorem len_fit {wl : List Wl} (hf : Fit (.tuple (wl.map Wl.D))) : wl.length ≤ 3000 := by
  have := sz_tlen hf
  rwa [List.length_map] at this
theorem comp_flt {dg : DG} {dt : DT} {de : DE} {ρ : Env} (p : PyData → Bool) {Q : List PyData → Prop} : ∀ (xs acc : List PyData), (∀ x ∈ xs, ∀ (R : PyData → Prop) (R0 : Prop), iteB (p x) (R x) R0 → dg x ρ fun ρ1 => dt ρ1 fun b => iteB b (de ρ1 fun y => R y) R0) → Q (acc ++ xs.filter p) → dComp dg dt de ρ xs acc Q
  | [], acc, _, q => by
    rw [List.filter_nil, List.append_nil] at q
    exact q
  | x :: xs, acc, h, q => by
    refine h x List.mem_cons_self _ _ (iteB_i (fun e => ?_) (fun e => ?_))
    · refine comp_flt p xs _ (fun y hy => h y (List.mem_cons_of_mem _ hy)) ?_
      rw [List.filter_cons, if_pos e] at q
      rw [List.append_assoc]
      exact q
    · refine comp_flt p xs _ (fun y hy => h y (List.mem_cons_of_mem _ hy)) ?_
      rw [List.filter_cons, if_neg (by rw [e]; decide)] at q
      exact q
theorem filt_all (f : PyData → Bool) : ∀ xs : List PyData, (xs.filter fun x => !f x).isEmpty = xs.all f
  | [] => rfl
  | x :: xs => by
    rw [List.filter_cons, List.all_cons]
    cases f x with
    | true => simpa using filt_all f xs
    | false => rfl
theorem filt_all' (f g : PyData → Bool) (h : ∀ x, g x = !f x) (xs : List PyData) : (xs.filter g).isEmpty = xs.all f := by
  rw [show g = fun x => !f x from funext h]
  exact filt_all f xs
theorem enum_at {n : Nat} {xs : List PyData} {x : PyData} {r : List PyData} (h : x :: r = enumD n xs) : ∃ y ys, xs = y :: ys ∧ x = .tuple [.int (n : Nat), y] ∧ r = enumD (n + 1) ys := by
  cases xs with
  | nil => cases h
  | cons y ys =>
    cases h
    exact ⟨y, ys, rfl, rfl, rfl⟩
theorem enum_none {n : Nat} {xs : List PyData} (h : [] = enumD n xs) : xs = [] := by
  cases xs with
  | nil => rfl
  | cons y ys => cases h
/-- an integer's sign -/
theorem sgn_zero {x : Int} : sgn x = 0 ↔ x = 0 := by
  unfold sgn
  by_cases h1 : 0 < x
  · rw [if_pos h1]
    omega
  · rw [if_neg h1]
    by_cases h2 : x < 0
    · rw [if_pos h2]
      omega
    · rw [if_neg h2]
      omega
theorem sgn_mul_neg {x y : Int} : sgn x * sgn y < 0 ↔ x * y < 0 := by
  have hp : ∀ {x y : Int}, 0 < x → 0 < y → 0 < x * y := fun a b => Int.mul_pos a b
  have hn : ∀ {x y : Int}, 0 < x → y < 0 → x * y < 0 := fun a b => Int.mul_neg_of_pos_of_neg a b
  have hm : ∀ {x y : Int}, x < 0 → 0 < y → x * y < 0 := fun a b => Int.mul_neg_of_neg_of_pos a b
  have hq : ∀ {x y : Int}, x < 0 → y < 0 → 0 < x * y := fun a b => Int.mul_pos_of_neg_of_neg a b
  rcases Int.lt_trichotomy x 0 with hx | hx | hx
  · rw [show sgn x = -1 by unfold sgn; rw [if_neg (by omega), if_pos hx]]
    rcases Int.lt_trichotomy y 0 with hy | hy | hy
    · rw [show sgn y = -1 by unfold sgn; rw [if_neg (by omega), if_pos hy]]
      have := hq hx hy
      omega
    · subst hy
      simp [sgn]
    · rw [show sgn y = 1 by unfold sgn; rw [if_pos hy]]
      have := hm hx hy
      omega
  · subst hx
    simp [sgn]
  · rw [show sgn x = 1 by unfold sgn; rw [if_pos hx]]
    rcases Int.lt_trichotomy y 0 with hy | hy | hy
    · rw [show sgn y = -1 by unfold sgn; rw [if_neg (by omega), if_pos hy]]
      have := hn hx hy
      omega
    · subst hy
      simp [sgn]
    · rw [show sgn y = 1 by unfold sgn; rw [if_pos hy]]
      have := hp hx hy
      omega
theorem sgn_abs (x : Int) : (sgn x).natAbs < 2 ^ 1 := by
  unfold sgn
  split
  · decide
  · split <;> decide
theorem clash_line {a b c d e f g h : Int} (h1 : turnI a b c d e f = 0) (h2 : turnI a b c d g h = 0) :
    clashB a b c d e f g h = (fun lo hi : Int × Int => ltP lo.1 lo.2 hi.1 hi.2) (mxP (mnP (a, b) (c, d)) (mnP (e, f) (g, h))) (mnP (mxP (a, b) (c, d)) (mxP (e, f) (g, h))) := by
  unfold clashB
  rw [if_pos (by rw [h1, h2]; decide)]
theorem clash_off {a b c d e f g h : Int} (hz : ¬ (turnI a b c d e f = 0 ∧ turnI a b c d g h = 0)) :
    clashB a b c d e f g h = (decide (turnI a b c d e f * turnI a b c d g h < 0) && decide (turnI e f g h a b * turnI e f g h c d < 0)) := by
  unfold clashB
  rw [if_neg]
  intro z
  rw [Bool.and_eq_true, beq_iff_eq, beq_iff_eq] at z
  exact hz ⟨z.1.trans z.2, z.2⟩
theorem eqz (i j : Int) : PyData.eqv (.int i) (.int j) = decide (i = j) := by
  show (i == j) = _
  rw [Bool.eq_iff_iff, decide_eq_true_iff, beq_iff_eq]
theorem drop_map {wl : List Wl} {k : Nat} {y : PyData} {ys : List PyData} (h : (wl.drop k).map Wl.D = y :: ys) : ∃ hk : k < wl.length, y = wl[k].D ∧ ys = (wl.drop (k + 1)).map Wl.D := by
  have hk : k < wl.length := by
    refine Classical.byContradiction fun z => ?_
    rw [List.drop_of_length_le (by omega)] at h
    cases h
  rw [List.drop_eq_getElem_cons hk, List.map_cons] at h
  cases h
  exact ⟨hk, rfl, rfl⟩
theorem drop_nil {wl : List Wl} {k : Nat} (h : (wl.drop k).map Wl.D = []) : wl.length ≤ k := by
  have := congrArg List.length h
  rw [List.length_map, List.length_drop, List.length_nil] at this
  omega
end Ey
/-! (0,) * k, k from 1 on -/
namespace Ey
open PySem PySem.Spec PyProof.Rows L2
theorem tuple_mul1 (l : Addr) (items : Array Value) (n : Nat) (dd : Option Addr) (sl : Array (Option Value)) (u : Tok) :
    Meets (Builtin.«tuple.__mul__» ⟨[.ref l, .int 1 u], []⟩) (fun _ R s => s.heap.get? l = some { cls := .type "tuple", dict := dd, data := .seq items n, slots := sl } ∧ R (.ok (.ret (Value.ref l))) s) :=
  .of_wp fun prog w A R s h => by
    obtain ⟨hp, g, d, tk, os⟩ := s
    obtain ⟨hl, h⟩ := h
    have f1 := AutoSeq1.idx_int
    wp_walk using wpAny_loadPart' hl
    exact ⟨_, rfl, h⟩
def rRepT1 (K : PySem.W.Frag) : R2 := fun x y H Q => ∃ l xs, x = .ref l ∧ y = .int 1 ∧ SqT K H l xs ∧ Q (.ref l) H
section
variable {X : Cx}
theorem op_repT1 : OpR X (binaryOp .Mult) (rRepT1 X.K) := by
  intro pins s σ H x y v u Q I rx ry h
  obtain ⟨l, xs, rfl, rfl, hT, q⟩ := h
  cases rx
  obtain ⟨t, rfl⟩ := ry
  obtain ⟨its, r, ⟨⟨cls, dd, data, sl⟩, ho, hc, n, hd⟩, hs⟩ := I.tuple hT
  simp only at hc hd
  subst hc hd
  exact wpAny_binaryOp_repeat_ref (T := "tuple") (U := "int") (by decide) ⟨_, ho, rfl⟩ (fun s' => typeIs_int s' 1 t) noFill_tuple_mul F.fills_int_mul F.slot_int_rmul repeat_tuple F.slot_int_index.lookup
    (call_meets F.slot_int_rmul (typeIs_int s 1 t) F.entry_int_rmul (F.args_int_rmul_2 _ _) (int_rmul_tuple 1 t l its.toArray n dd sl)
      ⟨ho, rfl, ⟨_, ho, rfl⟩, call_meets F.slot_tuple_mul ⟨_, ho, rfl⟩ F.entry_tuple_mul (F.args_tuple_mul_2 _ _) (tuple_mul1 l its.toArray n dd sl t) ⟨ho, ⟨.ref l, H, I, rfl, q⟩⟩⟩)
/-- (0,) * k -/
def rRep0 (K : PySem.W.Frag) : R2 := fun x y H Q => ∃ (l : Addr) (k : Nat), x = .ref l ∧ y = .int k ∧ H l = some (.tup [.int 0]) ∧ 1 ≤ k ∧ k ≤ 1000 ∧
  ∀ p H', (∀ a o, H a = some o → H' a = some o) → H' p = some (.tup ((List.replicate k (0 : Int)).map V.int)) → Q (.ref p) H'
theorem rep_flat (k : Nat) : (List.replicate k [V.int 0]).flatten = (List.replicate k (0 : Int)).map V.int := by
  induction k with
  | zero => rfl
  | succ k ih => rw [List.replicate_succ, List.replicate_succ, List.flatten_cons, ih] <;> rfl
theorem op_rep0 : OpR X (binaryOp .Mult) (rRep0 X.K) := by
  intro pins s σ H x y v u Q I rx ry h
  obtain ⟨l, k, rfl, rfl, hT, h1, h2, q⟩ := h
  by_cases hk : k = 1
  · subst hk
    exact op_repT1 pins s σ H _ _ v u Q I rx ry ⟨l, _, rfl, rfl, SqT.of hT, q l H (fun _ _ e => e) hT⟩
  · refine op_repT pins s σ H _ _ v u Q I rx ry ⟨l, k, _, rfl, rfl, SqT.of hT, (fun z => nomatch z), by omega, by omega, by decide, fun p np => ?_⟩
    refine q p _ (fun a o e => ?_) ?_
    · rw [upd_ne (ne_of_none e np)]
      exact e
    · rw [upd_same, Int.toNat_natCast, rep_flat]
end
end Ey
/-! ### tuples and lists repeated -/
namespace Ey
open PySem PySem.Spec PyProof.Rows L2
theorem tuple_mul0 (l : Addr) (n : Nat) (dd : Option Addr) (sl : Array (Option Value)) (u : Tok) :
    Meets (Builtin.«tuple.__mul__» ⟨[.ref l, .int 2 u], []⟩) (fun _ R s => s.heap.get? l = some { cls := .type "tuple", dict := dd, data := .seq #[] n, slots := sl } ∧ R (.ok (.ret (Value.ref l))) s) :=
  .of_wp fun P w A R z h => by
    obtain ⟨hp, gg, dr, tk, os⟩ := z
    obtain ⟨hq, h⟩ := h
    have f1 := AutoSeq1.idx_int
    wp_walk using wpAny_loadPart' hq
    exact ⟨_, rfl, h⟩
section
variable {X : Cx}
def rRepE (K : PySem.W.Frag) : R2 := fun x y H Q => ∃ l, x = .ref l ∧ y = .int 2 ∧ SqT K H l [] ∧ Q (.ref l) H
theorem op_repE : OpR X (binaryOp .Mult) (rRepE X.K) := by
  intro ps s σ H x y v u Q I rx ry h
  obtain ⟨l, rfl, rfl, hT, q⟩ := h
  cases rx
  obtain ⟨t, rfl⟩ := ry
  obtain ⟨ims, r, ⟨⟨cls, dd, data, sl⟩, ho, hc, n, hd⟩, hs⟩ := I.tuple hT
  cases r
  replace hc : cls = .type "tuple" := hc
  replace hd : data = .seq #[] n := hd
  subst hc; subst hd
  exact wpAny_binaryOp_repeat_ref (T := "tuple") (U := "int") (by decide) ⟨_, ho, rfl⟩ (fun s' => typeIs_int s' 2 t) noFill_tuple_mul F.fills_int_mul F.slot_int_rmul repeat_tuple F.slot_int_index.lookup
    (call_meets F.slot_int_rmul (typeIs_int s 2 t) F.entry_int_rmul (F.args_int_rmul_2 _ _) (int_rmul_tuple 2 t l #[] n dd sl)
      ⟨ho, rfl, ⟨_, ho, rfl⟩, call_meets F.slot_tuple_mul ⟨_, ho, rfl⟩ F.entry_tuple_mul (F.args_tuple_mul_2 _ _) (tuple_mul0 l n dd sl t) ⟨ho, ⟨.ref l, H, I, rfl, q⟩⟩⟩)
def rMulA (K : PySem.W.Frag) : R2 := fun x y H Q => (rI CMulW fun i j => .int (i * j)) x y H Q ∨ rRepT K x y H Q ∨ rRepE K x y H Q ∨ rRep x y H Q
theorem op_mulA : OpR X (binaryOp .Mult) (rMulA X.K) := op_mulW.or (op_repT.or (op_repE.or op_rep))
theorem qo_mulA {K : PySem.W.Frag} (hK : X.K = K) : OpR X (binaryOp .Mult) (rMulA K) := by
  subst hK
  exact op_mulA
end
/-- x * y: two integers, or something twice -/
def dMulA : R2d := fun x y Q => (rdI CMulW fun i j => .int (i * j)) x y Q ∨ (y = .int 2 ∧ byD x (t := fun xs => xs.length ≤ 1000 ∧ Q (.tuple (xs ++ xs))) (l := fun xs => xs.length ≤ 1000 ∧ Q (.list (xs ++ xs))))
theorem twice {α : Type} (xs : List α) : (List.replicate (2 : Int).toNat xs).flatten = xs ++ xs := by
  show xs ++ (xs ++ []) = _
  rw [List.append_nil]
theorem s2_mulA {f : Fx} {K : PySem.W.Frag} : S2 f (rMulA K) dMulA := fun L σ H ρ v u x y Q R r dx dy q k => by
  rcases q with q | ⟨rfl, q⟩
  · exact .inl (s2_mul L σ H ρ v u x y Q R r dx dy q k)
  · cases dy
    cases dx with
    | @tup p vs xs ea a =>
      cases vs with
      | nil =>
        cases a
        exact .inr (.inr (.inl ⟨_, rfl, rfl, SqT.of ea, k _ H _ r.self (.tup ea .nil) q.2⟩))
      | cons v0 vs =>
        refine .inr (.inl ⟨_, 2, _, rfl, rfl, SqT.of ea, (fun z => nomatch z), by decide, by decide, ?_, fun p np => ?_⟩)
        · rw [a.length]
          exact q.1
        · rw [twice]
          exact k _ _ _ (r.new np) (.tup upd_same (r.dds (r.new np) (dds_app a a))) q.2
    | lst fa ea a =>
      refine .inr (.inr (.inr ⟨_, 2, _, rfl, rfl, ea, by decide, by decide, ?_, fun p np => ?_⟩))
      · rw [a.length]
        exact Nat.le_trans (Nat.mul_le_mul_right _ q.1) (by decide)
      · rw [twice]
        exact k _ _ _ (r.new np) (.lst (r.opn np) upd_same (r.dds (r.new np) (dds_app a a))) q.2
    | _ => exact q.elim
end Ey
set_option exponentiation.threshold 3000
/-! ### drawn things -/
namespace Ey
open PySem PySem.Spec PyProof.Rows L2
/-- the size of a value drawn at random, by its depth -/
def bigN : Nat → Nat
  | 0 => 7
  | n + 1 => 3 * (bigN n + 1) + 7
theorem bigN_ge : ∀ n, 7 ≤ bigN n
  | 0 => Nat.le_refl _
  | n + 1 => by have := bigN_ge n; unfold bigN; omega
theorem sz_dictKL {n m : Nat} {ds : List PyData} (h : SzA n m ds) (k : Nat) (hk : k ≤ 1000) : Sz (n + 7) (m + 2) (.dict [(.str ("key" : Str), .list ds), (.int 1, .int (k : Nat))]) := by
  have z1 := h.list
  obtain ⟨⟨a, b, c, e⟩, f⟩ := z1
  have i2 : Sz 0 0 (.int (k : Nat)) := sz_int (Nat.lt_of_le_of_lt (show ((k : Nat) : Int).natAbs ≤ 1000 by omega) (by decide))
  have i1 : Sz 0 0 (.int 1) := sz_int (by decide)
  have i3 : Sz 3 0 (.str ("key" : Str)) := sz_str (by decide +kernel) (by decide +kernel)
  have b3 : PyData.bulk (.str ("key" : Str)) ≤ 3 := i3.bk
  have d3 : PyData.depth (.str ("key" : Str)) ≤ 0 := i3.dp
  have d2 : PyData.depth (.int (k : Nat)) ≤ 0 := i2.dp
  have d1 : PyData.depth (.int 1) ≤ 0 := i1.dp
  have b1 : PyData.bulk (.int 1) = 0 := rfl
  have b2 : PyData.bulk (.int (k : Nat)) = 0 := rfl
  refine ⟨⟨?_, ?_, ?_, ?_⟩, ?_⟩
  · show PyData.showableKv _ = true
    simp only [PyData.showableKv, a, i1.sh, i2.sh, i3.sh, Bool.and_self]
  · show PyData.leavesShortKv _ _ = true
    simp only [PyData.leavesShortKv, b, i1.ls, i2.ls, i3.ls, Bool.and_self]
  · show PyData.bulkKv _ ≤ _
    simp only [PyData.bulkKv]
    omega
  · show PyData.depthKv _ + 1 ≤ _
    simp only [PyData.depthKv]
    omega
  · show ibKv _ = true
    simp only [ibKv, f, i1.ib, i2.ib, i3.ib, Bool.and_self]
theorem sz_strlit {x : Str} {n : Nat} (h : (x.cps.toList.all fun c => decide (c < 16 ^ 8)) = true) (hn : x.cps.size ≤ n) : Sz n 0 (.str x) := sz_str h hn
/-! layouts -/
def qB (n : Nat) : PyData → Bool
  | .tuple [.tuple [.int a, .int b], .tuple [.int c, .int d]] => decide (a.natAbs ≤ n) && (decide (b.natAbs ≤ n) && (decide (c.natAbs ≤ n) && decide (d.natAbs ≤ n)))
  | _ => false
def rowB : PyData → Bool
  | .tuple ps => decide (ps.length ≤ 10) && ps.all (qB 12)
  | _ => false
def layB : PyData → Bool
  | .list ls => decide (ls.length = 10) && ls.all rowB
  | _ => false
theorem qB_is {n : Nat} {x : PyData} (h : qB n x = true) : ∃ a b c d : Int, x = .tuple [prD a b, prD c d] ∧ a.natAbs ≤ n ∧ b.natAbs ≤ n ∧ c.natAbs ≤ n ∧ d.natAbs ≤ n := by
  unfold qB at h
  split at h
  · simp only [Bool.and_eq_true, decide_eq_true_eq] at h
    exact ⟨_, _, _, _, rfl, h⟩
  · cases h
theorem rowB_is {x : PyData} (h : rowB x = true) : ∃ ps, x = .tuple ps ∧ ps.length ≤ 10 ∧ ∀ p ∈ ps, qB 12 p = true := by
  unfold rowB at h
  split at h
  · simp only [Bool.and_eq_true, decide_eq_true_eq, List.all_eq_true] at h
    exact ⟨_, rfl, h⟩
  · cases h
theorem layB_is {x : PyData} (h : layB x = true) : ∃ ls, x = .list ls ∧ ls.length = 10 ∧ ∀ p ∈ ls, rowB p = true := by
  unfold layB at h
  split at h
  · simp only [Bool.and_eq_true, decide_eq_true_eq, List.all_eq_true] at h
    exact ⟨_, rfl, h⟩
  · cases h
/-! walls that are drawn -/
def NameOk (n : Str) : Prop := Sz 8 0 (.str n)
structure Wl.Near (w : Wl) : Prop where
  nm : NameOk w.n
  a : w.a.natAbs ≤ 60
  b : w.b.natAbs ≤ 60
  c : w.c.natAbs ≤ 60
  d : w.d.natAbs ≤ 60
theorem lt60 {x : Int} (h : x.natAbs ≤ 60) : x.natAbs < 2 ^ 100 := Nat.lt_of_le_of_lt h (by decide)
theorem sm60 {x y : Int} (h : x.natAbs ≤ 60) (h2 : y.natAbs ≤ 60) : Sm x y := ⟨Nat.lt_of_le_of_lt h (by decide), Nat.lt_of_le_of_lt h2 (by decide)⟩
/-! integers within, below a bound -/
mutual
def smD : PyData → Bool
  | .int i => decide (i.natAbs < 2 ^ 100)
  | .tuple xs => smAll xs
  | .str _ => true
  | .none => true
  | .bool _ => true
  | _ => false
def smAll : List PyData → Bool
  | [] => true
  | x :: xs => smD x && smAll xs
end
theorem smAll_mem : ∀ {xs : List PyData}, smAll xs = true → ∀ x ∈ xs, smD x = true
  | y :: ys, h, x, hx => by
    unfold smAll at h
    rw [Bool.and_eq_true] at h
    rcases List.mem_cons.mp hx with rfl | hx
    · exact h.1
    · exact smAll_mem h.2 x hx
theorem smAll_of : ∀ {xs : List PyData}, (∀ x ∈ xs, smD x = true) → smAll xs = true
  | [], _ => rfl
  | y :: ys, h => by
    unfold smAll
    rw [h y List.mem_cons_self, smAll_of fun x hx => h x (List.mem_cons_of_mem _ hx)]
    rfl
theorem sm_tup {xs : List PyData} (h : smD (.tuple xs) = true) : ∀ x ∈ xs, smD x = true := smAll_mem (by unfold smD at h; exact h)
theorem sm_int {i : Int} (h : smD (.int i) = true) : i.natAbs < 2 ^ 100 := by
  unfold smD at h
  exact of_decide_eq_true h
theorem sz_tup' {n m : Nat} {ds : List PyData} (h : Sz n (m + 1) (.tuple ds)) : SzA n m ds := by
  obtain ⟨⟨a, b, c, e⟩, f⟩ := h
  simp only [PyData.showable, PyData.leavesShort, PyData.bulk, PyData.depth, ibD] at a b c e f
  exact ⟨⟨a, b, c, by omega⟩, f⟩
theorem sz_tup0 {n : Nat} {ds : List PyData} (h : Sz n 0 (.tuple ds)) : False := by
  have e := h.dp
  simp only [PyData.depth] at e
  omega
theorem sza_app {n n' m : Nat} : ∀ {ds es : List PyData}, SzA n m ds → SzA n' m es → SzA (n + n') m (ds ++ es)
  | [], es, _, h => h.mono (Nat.le_add_left _ _) (Nat.le_refl _)
  | d :: ds, es, h, h2 => by
    have a := (sza_inv h).1
    have b := (sza_inv h).2
    have hb := h.bk
    simp only [PyData.bulkAll] at hb
    have a' : Sz d.bulk m d := ⟨⟨a.sh, a.ls, Nat.le_refl _, a.dp⟩, a.ib⟩
    have b' : SzA (PyData.bulkAll ds) m ds := ⟨⟨b.sh, b.ls, Nat.le_refl _, b.dp⟩, b.ib⟩
    exact (sza_cons a' (sza_app b' h2)).mono (by omega) (Nat.le_refl _)
theorem sza_one {n m : Nat} {d : PyData} (h : Sz n m d) : SzA (n + 1) m [d] := (sza_cons h sza_nil).mono (by omega) (Nat.le_refl _)
theorem sza_sub {n m : Nat} {ds es : List PyData} (s : es.Sublist ds) (h : SzA n m ds) : SzA n m es := by
  induction s generalizing n with
  | slnil => exact h
  | cons a s ih => exact ih (sza_inv h).2
  | @cons_cons l1 l2 a s ih =>
    have hb := h.bk
    simp only [PyData.bulkAll] at hb
    have x := (sza_inv h).1
    have y := (sza_inv h).2
    have x' : Sz a.bulk m a := ⟨⟨x.sh, x.ls, Nat.le_refl _, x.dp⟩, x.ib⟩
    have y' : SzA (PyData.bulkAll l2) m l2 := ⟨⟨y.sh, y.ls, Nat.le_refl _, y.dp⟩, y.ib⟩
    exact (sza_cons x' (ih y')).mono (by omega) (Nat.le_refl _)
theorem sza_rev {n m : Nat} : ∀ {ds : List PyData}, SzA n m ds → SzA n m ds.reverse
  | [], h => h
  | d :: ds, h => by
    have hb := h.bk
    simp only [PyData.bulkAll] at hb
    have x := (sza_inv h).1
    have y := (sza_inv h).2
    have x' : Sz d.bulk m d := ⟨⟨x.sh, x.ls, Nat.le_refl _, x.dp⟩, x.ib⟩
    have y' : SzA (PyData.bulkAll ds) m ds := ⟨⟨y.sh, y.ls, Nat.le_refl _, y.dp⟩, y.ib⟩
    rw [List.reverse_cons]
    exact (sza_app (sza_rev y') (sza_one x')).mono (by omega) (Nat.le_refl _)
/-- a walls' row, sized -/
theorem near_sz {w : Wl} (h : w.Near) : Sz 15 2 w.D := by
  have i : ∀ {x : Int}, x.natAbs ≤ 60 → Sz 0 0 (.int x) := fun h => sz_int (Nat.lt_of_le_of_lt h (by decide))
  have p : ∀ {x y : Int}, x.natAbs ≤ 60 → y.natAbs ≤ 60 → Sz 2 1 (prD x y) := fun h h2 => ((sza_cons (i h) (sza_cons (i h2) sza_nil)).tuple).mono (by decide) (by decide)
  exact ((sza_cons (h.nm.mono (Nat.le_refl _) (Nat.zero_le 1)) (sza_cons (p h.a h.b) (sza_cons (p h.c h.d) sza_nil))).tuple).mono (by decide) (by decide)
theorem near_sm {w : Wl} (h : w.Near) : smD w.D = true := by
  unfold Wl.D wallD prD
  simp [smD, smAll, lt60 h.a, lt60 h.b, lt60 h.c, lt60 h.d]
theorem nears_sz : ∀ {wl : List Wl}, (∀ w ∈ wl, w.Near) → SzA (16 * wl.length) 2 (wl.map Wl.D)
  | [], _ => sza_nil
  | w :: wl, h => (sza_cons (near_sz (h w List.mem_cons_self)) (nears_sz fun v hv => h v (List.mem_cons_of_mem _ hv))).mono (by simp; omega) (Nat.le_refl _)
theorem plan_sz {wl : List Wl} (h : ∀ w ∈ wl, w.Near) (hl : wl.length ≤ 11) : Sz 176 3 (.tuple (wl.map Wl.D)) := ((nears_sz h).tuple).mono (by omega) (Nat.le_refl _)
theorem plan_sm {wl : List Wl} (h : ∀ w ∈ wl, w.Near) : smD (.tuple (wl.map Wl.D)) = true := by
  unfold smD
  refine smAll_of fun x hx => ?_
  obtain ⟨w, hw, rfl⟩ := List.mem_map.mp hx
  exact near_sm (h w hw)
theorem six_nn {n d : Nat} {k : Nat} (h : k ≤ n) : HT.sIx n d (some (k : Int)) = k := by
  rw [HT.sIx_nat]
  omega
theorem cut_to {xs : List PyData} {n : Nat} (h : n ≤ xs.length) : cutD xs none (some (n : Int)) = xs.take n := by
  unfold cutD
  rw [six_nn h]
  rfl
theorem cut_from {xs : List PyData} {n : Nat} (h : n ≤ xs.length) : cutD xs (some (n : Int)) none = xs.drop n := by
  unfold cutD
  rw [six_nn h]
  show (xs.drop n).take (xs.length - n) = _
  rw [← List.length_drop, List.take_length]
theorem comp_each {dg : DG} {de : DE} {ρ : Env} (p : PyData → Prop) {Q : List PyData → Prop} : ∀ (xs acc : List PyData), (∀ x ∈ xs, ∀ k : PyData → Prop, (∀ y, p y → k y) → dg x ρ fun ρ1 => de ρ1 k) → (∀ ys : List PyData, ys.length = xs.length → (∀ y ∈ ys, p y) → Q (acc ++ ys)) → dComp dg dTYes de ρ xs acc Q
  | [], acc, _, q => by
    have := q [] rfl (fun y hy => by cases hy)
    rwa [List.append_nil] at this
  | x :: xs, acc, h, q => by
    refine h x List.mem_cons_self _ fun y hy => ?_
    refine comp_each p xs _ (fun z hz => h z (List.mem_cons_of_mem _ hz)) fun ys hl hp => ?_
    rw [List.append_assoc]
    refine q (y :: ys) (by rw [List.length_cons, List.length_cons, hl]) fun z hz => ?_
    rcases List.mem_cons.mp hz with rfl | hz
    · exact hy
    · exact hp z hz
theorem allc {p : PyData → Prop} {x : PyData} {xs : List PyData} (h : p x) (h2 : ∀ y ∈ xs, p y) : ∀ y ∈ x :: xs, p y := fun y hy => by
  rcases List.mem_cons.mp hy with rfl | hy
  · exact h
  · exact h2 y hy
theorem alln {p : PyData → Prop} : ∀ y ∈ ([] : List PyData), p y := fun y hy => by cases hy
def IsName (x : PyData) : Prop := ∃ n, x = .str n ∧ NameOk n
theorem names_of : ∀ {xs : List PyData}, (∀ x ∈ xs, IsName x) → ∃ ns : List Str, xs = ns.map .str ∧ ∀ n ∈ ns, NameOk n
  | [], _ => ⟨[], rfl, fun _ h => by cases h⟩
  | x :: xs, h => by
    obtain ⟨n, rfl, hn⟩ := h x List.mem_cons_self
    obtain ⟨ns, rfl, h2⟩ := names_of fun y hy => h y (List.mem_cons_of_mem _ hy)
    exact ⟨n :: ns, rfl, fun m hm => by
      rcases List.mem_cons.mp hm with rfl | hm
      · exact hn
      · exact h2 m hm⟩
theorem nm_lit {x : Str} (h : (x.cps.toList.all fun c => decide (c < 16 ^ 8)) = true) (hn : x.cps.size ≤ 8) : IsName (.str x) := ⟨x, rfl, sz_str h hn⟩
theorem sz_text {i : Int} (h : i.natAbs < 2 ^ 250) : Sz 252 0 (.str (toString i : String)) := by
  refine sz_str ?_ ?_
  · rw [Str.ofString_eq_toList, List.all_eq_true]
    intro c hc
    rw [List.mem_map] at hc
    obtain ⟨ch, _, rfl⟩ := hc
    exact decide_eq_true (Nat.lt_of_lt_of_le (show ch.toNat < 2 ^ 32 from ch.val.toNat_lt) (by decide))
  · show (Str.ofString (toString i)).length ≤ 252
    rw [PySem.ofString_length]
    have g : i.natAbs.log2 < 250 := by
      by_cases h0 : i.natAbs = 0
      · rw [h0]; decide
      · exact (Nat.log2_lt h0).mpr h
    exact Nat.le_trans (int_text_length_le (by decide) g) (by decide)
theorem isInt_is {x : PyData} (h : isInt x = true) : ∃ i, x = .int i := by
  cases x with
  | int i => exact ⟨i, rfl⟩
  | _ => cases h
theorem add_sm {i j : Int} (h : i.natAbs < 2 ^ 100) (h2 : j.natAbs ≤ 10) : (i + j).natAbs < 2 ^ 250 := by
  have a : (2 : Nat) ^ 100 + 10 < 2 ^ 250 := by decide
  have := Int.natAbs_add_le i j
  omega
theorem if_share {c : DT} {t v : DS} {D : DEnds} {ρ : Env} (R : Prop) (hT : t { D with nx := v D } ρ) (hc : ∀ P : Bool → Prop, P true → (R → P false) → c ρ P) (hF : R → v D ρ) : dSeq (dIfS c t dNext) v D ρ := hc _ hT hF
theorem bulk_app : ∀ ds es : List PyData, PyData.bulkAll (ds ++ es) = PyData.bulkAll ds + PyData.bulkAll es
  | [], es => by simp [PyData.bulkAll]
  | d :: ds, es => by
    have := bulk_app ds es
    simp only [List.cons_append, PyData.bulkAll]
    omega
def crossOf (a b c d : Int) : PyData → Bool
  | .tuple [.tuple [.int e, .int f], .tuple [.int g, .int h]] => clashB a b c d e f g h
  | _ => false
theorem qB_mk {n : Nat} {a b c d : Int} (h1 : a.natAbs ≤ n) (h2 : b.natAbs ≤ n) (h3 : c.natAbs ≤ n) (h4 : d.natAbs ≤ n) : qB n (.tuple [prD a b, prD c d]) = true := by
  show (decide (a.natAbs ≤ n) && (decide (b.natAbs ≤ n) && (decide (c.natAbs ≤ n) && decide (d.natAbs ≤ n)))) = true
  rw [decide_eq_true h1, decide_eq_true h2, decide_eq_true h3, decide_eq_true h4]
  rfl
theorem ne_pair {a b c d : Int} (h : (!PyData.eqv (prD a b) (prD c d)) = true) : a ≠ c ∨ b ≠ d := by
  rw [eqv2] at h
  have h5 : ¬ [a, b] = [c, d] := fun z => by
    rw [decide_eq_true z] at h
    cases h
  by_cases e1 : a = c
  · exact .inr fun e2 => h5 (by rw [e1, e2])
  · exact .inl e1
theorem mv_bound {k : Nat} {mir : Bool} {s a b x y : Int} (ha : a.natAbs ≤ 12) (hb : b.natAbs ≤ 12) (hs : s.natAbs ≤ 3) (hx : x.natAbs ≤ 10) (hy : y.natAbs ≤ 10) : ((movI k mir s a b).1 + x).natAbs ≤ 60 ∧ ((movI k mir s a b).2 + y).natAbs ≤ 60 := by
  have hp : (if mir = true then (-a, b) else (a, b)).1.natAbs < 2 ^ 4 ∧ (if mir = true then (-a, b) else (a, b)).2.natAbs < 2 ^ 4 := by
    split
    · exact ⟨by rw [Int.natAbs_neg]; exact Nat.lt_of_le_of_lt ha (by decide), Nat.lt_of_le_of_lt hb (by decide)⟩
    · exact ⟨Nat.lt_of_le_of_lt ha (by decide), Nat.lt_of_le_of_lt hb (by decide)⟩
  obtain ⟨r1, r2⟩ := rot_abs (n := k) hp.1 hp.2
  have m : ∀ {u : Int}, u.natAbs < 2 ^ 4 → (u * s).natAbs ≤ 45 := fun {u} h => by
    rw [Int.natAbs_mul]
    exact Nat.mul_le_mul (show u.natAbs ≤ 15 by have : (2 : Nat) ^ 4 = 16 := rfl; omega) hs
  have m1 := m r1
  have m2 := m r2
  have t1 := Int.natAbs_add_le ((movI k mir s a b).1) x
  have t2 := Int.natAbs_add_le ((movI k mir s a b).2) y
  have n1 : (movI k mir s a b).1.natAbs ≤ 45 := m1
  have n2 : (movI k mir s a b).2.natAbs ≤ 45 := m2
  omega
theorem walls_of : ∀ {ys : List PyData}, (∀ y ∈ ys, ∃ w : Wl, y = w.D ∧ w.Near) → ∃ wl : List Wl, ys = wl.map Wl.D ∧ ∀ w ∈ wl, w.Near
  | [], _ => ⟨[], rfl, fun _ h => by cases h⟩
  | y :: ys, h => by
    obtain ⟨w, rfl, hw⟩ := h y List.mem_cons_self
    obtain ⟨wl, rfl, h2⟩ := walls_of fun z hz => h z (List.mem_cons_of_mem _ hz)
    exact ⟨w :: wl, rfl, fun v hv => by
      rcases List.mem_cons.mp hv with rfl | hv
      · exact hw
      · exact h2 v hv⟩
theorem zip_mem {xs ys : List PyData} {z : PyData} (h : z ∈ zipD xs ys) : ∃ x y, x ∈ xs ∧ y ∈ ys ∧ z = .tuple [x, y] := by
  obtain ⟨i, hi⟩ := List.mem_iff_getElem?.mp h
  obtain ⟨x, y, hx, hy, e⟩ := zip_get hi
  exact ⟨x, y, List.mem_of_getElem? hx, List.mem_of_getElem? hy, e⟩
theorem lt400 {x : Int} {n : Nat} (h : x.natAbs ≤ n) (hn : n ≤ 1000 := by decide) : x.natAbs < 2 ^ 400 := Nat.lt_of_le_of_lt (Nat.le_trans h hn) (by decide)
theorem cut_sub (xs : List PyData) (lo hi : Option Int) : (cutD xs lo hi).Sublist xs := (List.take_sublist _ _).trans (List.drop_sublist _ _)
theorem cut_len (xs : List PyData) (lo hi : Option Int) : (cutD xs lo hi).length ≤ xs.length := (cut_sub xs lo hi).length_le
theorem at_last {xs : List PyData} (h : 0 < xs.length) : ∃ y ∈ xs, atI xs (-1) = some y := by
  have e : atI xs (-1) = xs[xs.length - 1]? := by
    unfold atI ixN
    rw [if_neg (by decide), if_pos (by omega)]
    show xs[((-1 : Int) + xs.length).toNat]? = _
    congr 1
    omega
  refine ⟨xs[xs.length - 1], List.getElem_mem _, ?_⟩
  rw [e, List.getElem?_eq_getElem (by omega)]
theorem mem_wall {wl : List Wl} {y : PyData} (h : y ∈ wl.map Wl.D) : ∃ w ∈ wl, y = w.D := by
  obtain ⟨w, hw, rfl⟩ := List.mem_map.mp h
  exact ⟨w, hw, rfl⟩
def absI (i : Int) : Int := if i < 0 then -i else i
theorem abs_le {i : Int} (h : absI i ≤ 60) : i.natAbs ≤ 60 := by
  unfold absI at h
  split at h <;> omega
def absD : PyData → PyData
  | .int i => .int (absI i)
  | x => x
theorem max4 {a b c d : Int} {P : Int → Prop} (h : ∀ m : Int, (m ≤ 60 → (a ≤ 60 ∧ b ≤ 60 ∧ c ≤ 60 ∧ d ≤ 60)) → P m) : ∀ m, m ∈ [a, b, c, d] → (∀ y ∈ [a, b, c, d], y ≤ m) → P m := fun m _ h2 => h m fun h3 =>
  ⟨Int.le_trans (h2 a (by simp)) h3, Int.le_trans (h2 b (by simp)) h3, Int.le_trans (h2 c (by simp)) h3, Int.le_trans (h2 d (by simp)) h3⟩
theorem new_name {i : Nat} (h : i ≤ 1) : NameOk (("new" : Str) ++ (toString ((i : Nat) : Int) : String)) := by
  have : i = 0 ∨ i = 1 := by omega
  rcases this with rfl | rfl
  · exact sz_str (by decide +kernel) (by decide +kernel)
  · exact sz_str (by decide +kernel) (by decide +kernel)
end Ey
/-! ### try over data: return (word, e.fld, isinstance(e, B)) behind one clause -/
namespace Ey
open PySem PySem.Spec PyProof.Rows L2
/-! ### calls within a try -/
section
variable {X : Cx} {CX : CXT} {k : Nat} {x : Str} {ps : List Str} {sp : Sp} {E : L2.St → XK} {p pos : Pos}
theorem pe_clS {e : Expr} {es : List Expr} {t : TA} (G : Fk X.prog X.w X.K X.mg X.base CX k x ps sp) (hr : Room k X.A) (hg : Gl X x) (hx : ∀ σ, PassesAt CX X σ (E σ)) (ha : PA X (e :: es) t)
    (hdb : (x == ("__debug__" : Str)) = false := by decide) (he : starEach (e :: es) X.env = (false, eval e X.env) :: starEach es X.env := by rfl) (hpl : (backTo pos (starEach es X.env)).any (·.1) = false := by rfl) :
    PE X (.Call (.Name x p) (e :: es) [] pos) (tCallS sp E t) := by
  obtain ⟨f, fd, a, b, c, d⟩ := G.ex
  exact pe_callS a hr hg c d.1 b hx ha hdb he hpl
def tCallKwS (n : Nat) (o : List Nat) (sp : Sp) (E : L2.St → XK) (tk : TA) : TE := fun σ H Q => tk σ H fun zs H1 => zs.length = n ∧ sp (o.map fun i => zs.getD i .non) H1 Q (E σ)
theorem pe_clkS {st : Stmt} {ks : List Str} {o : List Nat} {kws : List Keyword} {tk : TA} (G : Fk X.prog X.w X.K X.mg X.base CX k x ps sp) (S : At X.K X.mg x st) (B : KwOf X.K x st ps ks o) (ho : ∀ i ∈ o, i < ks.length)
    (hr : Room k X.A) (hg : Gl X x) (hx : ∀ σ, PassesAt CX X σ (E σ)) (hkw : PK X kws tk)
    (hall : (backToKw pos (keywordEach kws X.env)).all (·.1.isSome) = true := by rfl) (hks : (backToKw pos (keywordEach kws X.env)).filterMap (·.1) = ks := by rfl) (hdb : (x == ("__debug__" : Str)) = false := by decide)
    (hpl : ((backTo pos (starEach [] X.env)).any (·.1) || (backToKw pos (keywordEach kws X.env)).any (·.1.isNone)) = false := by rfl) :
    PE X (.Call (.Name x p) [] kws pos) (tCallKwS ks.length o sp E tk) := by
  obtain ⟨f, fd, a, _, c, d, oc, od, osl, lk⟩ := G.ex
  obtain ⟨f2, fd2, F2, c2⟩ := S.ex
  rw [c] at c2
  cases c2
  obtain ⟨oc2, od2, osl2, lk2⟩ := fun_lk F2
  rw [lk] at lk2
  cases lk2
  refine ⟨fun pins s σ H Q I h => ?_⟩
  refine wpAny_Call_Name_kw (ld_glob I hg c ?_ hdb)
  refine PySem.W.callWith_KW0 (h₀ := X.base) I.ok.mod.kin d hall ?_ hpl
  refine thn (hkw.run pos pins s σ H _ I h) fun ws s2 ⟨zs, H2, I2, rz, hl, q2⟩ => ⟨I2.kIn, ?_⟩
  rw [hks]
  have hl2 : ws.length = ks.length := rz.length.symm.trans hl
  have r2 := vals_perm rz o fun i hi => by rw [hl]; exact ho i hi
  refine wpAny_call (codeAny_mono (a.run X.A X.stack s2 H2 ⟨[], ks.zip ws⟩ _ _ Q (E σ) hr I2.env0 (B f fd F2 s2 ws I2.kIn hl2) r2 q2) fun r s' hq => ?_)
  cases r with
  | error e => exact hx σ pins H2 s2 e s' I2 hq
  | ok fl =>
    cases fl with
    | ret u => exact I2.after hq
    | next => exact False.elim hq
    | brk => exact False.elim hq
    | cont => exact False.elim hq
end
def dCallS (i : Nat) (m : Md) (Ed : Str → PyData → Prop) (t : DA) : DE := fun ρ Q => i < ρ.length ∧ t ρ fun xs => m xs Q Ed
def dCallKwS (i n : Nat) (o : List Nat) (m : Md) (Ed : Str → PyData → Prop) (t : DA) : DE := fun ρ Q => i < ρ.length ∧ t ρ fun xs => xs.length = n ∧ m (o.map fun i => xs.getD i .none) Q Ed
section
variable {f : Fx} {sa : TA} {ea : DA} {m : Md} {cl : Str → Addr} {W : WX}
theorem se_callS {i : Nat} {Ed : Str → PyData → Prop} (hEd : f.Ed = Ed) (hE : ∀ σ v d H, i < σ.length → f.E v d H → W v d σ H) (hcl : f.cl = cl) (h : SA f sa ea) : SE f (tCallS (spD false cl m) (WE W) sa) (dCallS i m Ed ea) := fun L σ H ρ Q R r q k => by
  subst hEd
  exact
  h L σ H ρ _ _ r q.2 fun vs H1 xs g d q2 =>
    call_core hcl (r.mv g) (fun c x a v H' e g' n e2 d2 => hE σ _ _ _ (by rw [r.len]; exact q.1) (r.ok.ex c x a v H' e g' n e2 d2)) vs rfl d q2 fun w H2 z g2 dz q => k w H2 z (g.trans g2) dz q
theorem se_callKwS {n i : Nat} {o : List Nat} {Ed : Str → PyData → Prop} (hEd : f.Ed = Ed) (hE : ∀ σ v d H, i < σ.length → f.E v d H → W v d σ H) (hcl : f.cl = cl) (h : SA f sa ea) : SE f (tCallKwS n o (spD false cl m) (WE W) sa) (dCallKwS i n o m Ed ea) := fun L σ H ρ Q R r q k => by
  subst hEd
  exact
  h L σ H ρ _ _ r q.2 fun vs H1 xs g d q2 => ⟨by rw [d.length]; exact q2.1, call_core hcl (r.mv g) (fun c x a v H' e g' n e2 d2 => hE σ _ _ _ (by rw [r.len]; exact q.1) (r.ok.ex c x a v H' e g' n e2 d2)) _ rfl (dds_perm d o) q2.2 fun w H2 z g2 dz q => k w H2 z (g.trans g2) dz q⟩
end
/-- the frame with other errors -/
def Fx.err (f : Fx) (E : XK) (Ed : Str → PyData → Prop) : Fx := ⟨f.H0, f.F0, f.D, f.cl, E, Ed⟩
section
variable {f : Fx} {E : XK} {Ed : Str → PyData → Prop}
theorem Go.err {H H' : Hp} (g : Go f H H') : Go (f.err E Ed) H H' := ⟨g.kp, g.dk⟩
theorem Go.unerr {H H' : Hp} (g : Go (f.err E Ed) H H') : Go f H H' := ⟨g.kp, g.dk⟩
theorem Tr.unerr {L L' : List Addr} {H H' : Hp} (t : Tr (f.err E Ed) L H L' H') : Tr f L H L' H' := ⟨t.new, t.kp⟩
theorem SlR.err {L : List Addr} {H : Hp} {s : Sl} {o : Option V} (q : SlR f L H s o) : SlR (f.err E Ed) L H s o := by
  cases s with
  | any => trivial
  | d x => exact q
  | own xs => exact q
  | dk => exact q
theorem SlR.unerr {L : List Addr} {H : Hp} {s : Sl} {o : Option V} (q : SlR (f.err E Ed) L H s o) : SlR f L H s o := by
  cases s with
  | any => trivial
  | d x => exact q
  | own xs => exact q
  | dk => exact q
theorem Rel.err {L : List Addr} {σ : L2.St} {H : Hp} {ρ : Env} (r : Rel f L σ H ρ) (ok : (f.err E Ed).Ok) : Rel (f.err E Ed) L σ H ρ :=
  ⟨ok, r.go.err, r.len, r.own, fun i s e => by
    obtain ⟨o, eo, q⟩ := r.sl i s e
    exact ⟨o, eo, q.err⟩, r.inj⟩
theorem Rel.unerr {L : List Addr} {σ : L2.St} {H : Hp} {ρ : Env} (ok : f.Ok) (r : Rel (f.err E Ed) L σ H ρ) : Rel f L σ H ρ :=
  ⟨ok, r.go.unerr, r.len, r.own, fun i s e => by
    obtain ⟨o, eo, q⟩ := r.sl i s e
    exact ⟨o, eo, q.unerr⟩, r.inj⟩
theorem EO.err {L : List Addr} {H : Hp} {D : DEnds} {En : Ends} (ok : f.Ok) (o : EO f L H D En) : EO (f.err E Ed) L H D En :=
  ⟨fun L' σ' H' ρ' t r q => o.nx L' σ' H' ρ' t.unerr (r.unerr ok) q, fun L' σ' H' ρ' t r q => o.bk L' σ' H' ρ' t.unerr (r.unerr ok) q, fun L' σ' H' ρ' t r q => o.ct L' σ' H' ρ' t.unerr (r.unerr ok) q, fun v H' x g d q => o.rt v H' x g.unerr d q⟩
end
abbrev toldTs (K : PySem.W.Frag) (C B : Addr) (fld s : Str) (i : Nat) : Addr → Value → Option Addr → TS := fun a cls d => tRet (tTup (tCons (tC (.str s)) (tCons (tByEr C fld a cls d (tVar i)) (tCons (tCB (rIsEr K C a fld cls d) (tCons (tVar i) (tCons (tC (.ref B)) tNil))) tNil))))
def dTryTold (c s : Str) (t : (Str → PyData → Prop) → DS) : DS := fun D ρ => t (fun c' x => c' = c ∧ D.rt (.tuple [.str s, x, .bool true])) D ρ
theorem ss_tryTold {K : PySem.W.Frag} {f : Fx} {C B : Addr} {c fld s : Str} {i : Nat} {tb : WX → TS} {t : (Str → PyData → Prop) → DS} (hC : f.cl c = C) (hf : fldOf c = fld) (te : PySem.W.exmOne K (.ref C) (.ref C) = some true) (ki : PySem.W.kitOne K (.ref C) (.ref B) = some true)
    (hb : ∀ (W : WX) (g : Fx) (Ed : Str → PyData → Prop), g.Ed = Ed → g.cl = f.cl → (∀ σ v d H, i < σ.length → g.E v d H → W v d σ H) → SS g (tb W) (t Ed)) :
    SS f (fun D σ H => tb (wAs K (.ref C) i (toldTs K C B fld s i) (fun _ _ _ _ => False) D) D σ H) (dTryTold c s t) := fun L σ H ρ D E r q o => by
  let Ed' : Str → PyData → Prop := fun c' x => c' = c ∧ D.rt (.tuple [.str s, x, .bool true])
  let E' : XK := fun v d H' => v = .ref C ∧ ∃ a x u, d = some a ∧ Ed' c x ∧ Go f f.H0 H' ∧ f.H0 a = none ∧ H' a = some (.xd [(fld, u)]) ∧ Dd f.F0 H' u x
  have ok : (f.err E' Ed').Ok := ⟨r.ok.opn, r.ok.off, r.ok.dk, fun c' x a v H' e g n e2 d => by
    obtain ⟨rfl, e⟩ := e
    rw [hf] at e2
    exact ⟨by show Value.ref (f.cl c') = _; rw [hC], a, x, v, rfl, ⟨rfl, e⟩, g.unerr, n, e2, d⟩⟩
  refine hb _ (f.err E' Ed') Ed' rfl rfl (fun σ2 v d H2 hi e => ?_) L σ H ρ D E (r.err ok) q (o.err r.ok)
  obtain ⟨rfl, a, x, u, rfl, ⟨_, e⟩, g, n, e2, dx⟩ := e
  refine ⟨true, te, fun _ a0 n0 => ?_, fun z => by cases z⟩
  have at_i : (σ2.set i (some (V.ref a0)))[i]? = some (some (.ref a0)) := by rw [List.getElem?_set_self hi]
  refine ⟨.ref a0, at_i, rfl, rfl, a, u, rfl, e2, .ref a0, at_i, .ref B, .ref B, true, a, u, rfl, rfl, rfl, e2, fun u r => r, ki, by show 3 ≤ sizeLine; decide, fun p np => ?_⟩
  have g2 : Go f f.H0 (upd H2 p (.tup [.str s, u, .bl true])) := g.new np
  have k2 : Dd f.F0 (upd H2 p (.tup [.str s, u, .bl true])) u x := dx.keep (keep_of0 r.ok g.dk (Go.of g.dk (Evl.Ex.new np)))
  exact o.rt _ _ _ g2 (.tup upd_same (.cons (.str _) (.cons k2 (.cons (.bl _) .nil)))) e
end Ey
set_option exponentiation.threshold 3000
/-! ### drawn plans whose walls are walls, of different names; the two of a pair exchanged -/
namespace Ey
open PySem PySem.Spec PyProof.Rows L2
def tenS : List Str := [("a" : Str), ("b" : Str), ("c1" : Str), ("wall" : Str), ("z" : Str), ("door2" : Str), ("longname" : Str), ("m" : Str), ("k9" : Str), ("x" : Str)]
def newS (k : Nat) : Str := ("new" : Str) ++ (toString ((k : Nat) : Int) : String)
def okS (n : Str) : Bool := nameB (.str n) && ((n.cps.toList.all fun c => decide (c < 16 ^ 8)) && decide (n.cps.size ≤ 8))
theorem ten_ok : ∀ n ∈ tenS, okS n = true := by
  have h : tenS.all okS = true := by decide +kernel
  exact fun n hn => List.all_eq_true.mp h n hn
theorem new_ok : okS (newS 0) = true ∧ okS (newS 1) = true := by decide +kernel
theorem new_out : newS 0 ∉ tenS ∧ newS 1 ∉ tenS ∧ newS 0 ≠ newS 1 := by decide +kernel
theorem okS_is {n : Str} (h : okS n = true) : nameB (.str n) = true ∧ NameOk n := by
  unfold okS at h
  simp only [Bool.and_eq_true, decide_eq_true_eq] at h
  exact ⟨h.1, sz_str h.2.1 h.2.2⟩
/-- a drawn wall -/
structure Wl.Real (w : Wl) : Prop extends w.Near where
  ok : nameB (.str w.n) = true
  ne : w.a ≠ w.c ∨ w.b ≠ w.d
def qnB : PyData → Bool
  | .tuple [.tuple [.int a, .int b], .tuple [.int c, .int d]] => !(decide (a = c) && decide (b = d))
  | _ => false
theorem qn_is {a b c d : Int} (h : qnB (.tuple [prD a b, prD c d]) = true) : a ≠ c ∨ b ≠ d := by
  have h : (!(decide (a = c) && decide (b = d))) = true := h
  by_cases e1 : a = c
  · refine .inr fun e2 => ?_
    rw [decide_eq_true e1, decide_eq_true e2] at h
    cases h
  · exact .inl e1
theorem qn_mk {a b c d : Int} (h : a ≠ c ∨ b ≠ d) : qnB (.tuple [prD a b, prD c d]) = true := by
  show (!(decide (a = c) && decide (b = d))) = true
  rcases h with h | h
  · rw [decide_eq_false h]
    rfl
  · rw [decide_eq_false h, Bool.and_false]
    rfl
def rowN : PyData → Bool
  | .tuple ps => decide (ps.length ≤ 10) && ps.all fun p => qB 12 p && qnB p
  | _ => false
def layN : PyData → Bool
  | .list ls => decide (ls.length = 10) && ls.all rowN
  | _ => false
theorem rowN_is {x : PyData} (h : rowN x = true) : ∃ ps, x = .tuple ps ∧ ps.length ≤ 10 ∧ ∀ p ∈ ps, qB 12 p = true ∧ qnB p = true := by
  unfold rowN at h
  split at h
  · simp only [Bool.and_eq_true, decide_eq_true_eq, List.all_eq_true] at h
    exact ⟨_, rfl, h⟩
  · cases h
theorem layN_is {x : PyData} (h : layN x = true) : ∃ ls, x = .list ls ∧ ls.length = 10 ∧ ∀ p ∈ ls, rowN p = true := by
  unfold layN at h
  split at h
  · simp only [Bool.and_eq_true, decide_eq_true_eq, List.all_eq_true] at h
    exact ⟨_, rfl, h⟩
  · cases h
theorem rot_inj : ∀ {n : Nat} {p q : Int × Int}, rotI n p = rotI n q → p = q
  | 0, _, _, h => h
  | n + 1, p, q, h => by
    have h : (-(rotI n p).2, (rotI n p).1) = (-(rotI n q).2, (rotI n q).1) := h
    have h1 := congrArg Prod.fst h
    have h2 := congrArg Prod.snd h
    simp only at h1 h2
    exact rot_inj (Prod.ext h2 (by omega))
theorem mov_ne {k : Nat} {mir : Bool} {s a b c d x y : Int} (hs : s ≠ 0) (h : a ≠ c ∨ b ≠ d) : (movI k mir s a b).1 + x ≠ (movI k mir s c d).1 + x ∨ (movI k mir s a b).2 + y ≠ (movI k mir s c d).2 + y := by
  by_cases e1 : (movI k mir s a b).1 = (movI k mir s c d).1
  · refine .inr fun e2 => ?_
    have e2 : (movI k mir s a b).2 = (movI k mir s c d).2 := by omega
    have f1 := Int.eq_of_mul_eq_mul_right hs e1
    have f2 := Int.eq_of_mul_eq_mul_right hs e2
    have g := rot_inj (Prod.ext f1 f2)
    cases mir with
    | true =>
      have g1 := congrArg Prod.fst g
      have g2 := congrArg Prod.snd g
      simp only [if_pos] at g1 g2
      rcases h with h | h <;> omega
    | false =>
      have g1 := congrArg Prod.fst g
      have g2 := congrArg Prod.snd g
      have g1 : a = c := g1
      have g2 : b = d := g2
      rcases h with h | h <;> omega
  · exact .inl fun z => e1 (by omega)
/-! names drawn -/
def IsTen (x : PyData) : Prop := ∃ n ∈ tenS, x = .str n
theorem tens_of : ∀ {xs : List PyData}, (∀ x ∈ xs, IsTen x) → ∃ ns : List Str, xs = ns.map .str ∧ ∀ n ∈ ns, n ∈ tenS
  | [], _ => ⟨[], rfl, fun _ h => by cases h⟩
  | x :: xs, h => by
    obtain ⟨n, hn, rfl⟩ := h x List.mem_cons_self
    obtain ⟨ns, rfl, h2⟩ := tens_of fun y hy => h y (List.mem_cons_of_mem _ hy)
    exact ⟨n :: ns, rfl, fun m hm => by
      rcases List.mem_cons.mp hm with rfl | hm
      · exact hn
      · exact h2 m hm⟩
theorem nodup_map {α β : Type} {f : α → β} : ∀ {l : List α}, (l.map f).Nodup → l.Nodup
  | [], _ => List.nodup_nil
  | a :: l, h => by
    rw [List.map_cons, List.nodup_cons] at h
    exact List.nodup_cons.mpr ⟨fun m => h.1 (List.mem_map_of_mem m), nodup_map h.2⟩
theorem erase_perm {α : Type} : ∀ {l : List α} {i : Nat} (h : i < l.length), (l[i] :: l.eraseIdx i).Perm l
  | a :: l, 0, _ => List.Perm.refl _
  | a :: l, i + 1, h => by
    have hi : i < l.length := by simpa using h
    have ih := erase_perm (l := l) (i := i) hi
    show (l[i] :: a :: l.eraseIdx i).Perm (a :: l)
    exact (List.Perm.swap a l[i] (l.eraseIdx i)).trans (ih.cons a)
theorem move_perm {ls ns : List PyData} {i : Nat} (h : i < ls.length) : (ls.eraseIdx i ++ (ns ++ [ls[i]])).Perm (ls ++ ns) := by
  have p1 : (ls[i] :: ls.eraseIdx i).Perm ls := erase_perm h
  have p2 : (ls.eraseIdx i ++ (ns ++ [ls[i]])).Perm (ls[i] :: (ls.eraseIdx i ++ ns)) := by
    rw [← List.append_assoc]
    exact List.perm_append_singleton _ _
  exact p2.trans ((List.cons_append ▸ p1.append_right ns : (ls[i] :: (ls.eraseIdx i ++ ns)).Perm (ls ++ ns)))
def ten_nodup : (tenS.map PyData.str).Nodup := by
  have h : tenS.Nodup := by decide +kernel
  exact List.Pairwise.map _ (fun a b hab e => hab (PyData.str.inj e)) h
/-! walls of a zip -/
def wallOf : PyData → PyData
  | .tuple [.str n, .tuple [p, q]] => .tuple [.str n, p, q]
  | x => x
theorem zip_walls : ∀ {ns : List Str} {ps : List PyData}, (∀ n ∈ ns, n ∈ tenS) → (∀ p ∈ ps, qB 60 p = true ∧ qnB p = true) → ∃ wl : List Wl, (zipD (ns.map .str) ps).map wallOf = wl.map Wl.D ∧ (wl.map (·.n)).Sublist ns ∧ wl.length ≤ ps.length ∧ ∀ w ∈ wl, w.Real
  | [], ps, _, _ => ⟨[], by cases ps <;> rfl, List.Sublist.refl _, Nat.zero_le _, fun _ h => by cases h⟩
  | n :: ns, [], _, _ => ⟨[], rfl, List.nil_sublist _, Nat.zero_le _, fun _ h => by cases h⟩
  | n :: ns, p :: ps, hn, hp => by
    obtain ⟨wl, e, s, l, r⟩ := zip_walls (ns := ns) (ps := ps) (fun m hm => hn m (List.mem_cons_of_mem _ hm)) (fun q hq => hp q (List.mem_cons_of_mem _ hq))
    obtain ⟨h1, h2⟩ := hp p List.mem_cons_self
    obtain ⟨a, b, c, d, rfl, b1, b2, b3, b4⟩ := qB_is h1
    have o := okS_is (ten_ok n (hn n List.mem_cons_self))
    refine ⟨⟨n, a, b, c, d⟩ :: wl, ?_, ?_, ?_, fun w hw => ?_⟩
    · show PyData.tuple [.str n, prD a b, prD c d] :: (zipD (ns.map .str) ps).map wallOf = _
      rw [e]
      rfl
    · exact s.cons_cons n
    · rw [List.length_cons, List.length_cons]
      omega
    · rcases List.mem_cons.mp hw with rfl | hw
      · exact ⟨⟨o.2, b1, b2, b3, b4⟩, o.1, qn_is h2⟩
      · exact r w hw
/-- walls of different names -/
structure Row (wl : List Wl) : Prop where
  real : ∀ w ∈ wl, w.Real
  nd : (wl.map (·.n)).Nodup
theorem Row.near {wl : List Wl} (h : Row wl) : ∀ w ∈ wl, w.Near := fun w hw => (h.real w hw).toNear
theorem Row.apart {wl : List Wl} (h : Row wl) : apartB (.tuple (wl.map Wl.D)) = true := by
  show ((wl.map Wl.D).all segB && decide (((wl.map Wl.D).map wname).Nodup)) = true
  rw [Bool.and_eq_true]
  refine ⟨?_, ?_⟩
  · rw [List.all_map, List.all_eq_true]
    intro w hw
    have r := h.real w hw
    show (nameB (.str w.n) && (true && (true && !PyData.eqv (prD w.a w.b) (prD w.c w.d)))) = true
    rw [r.ok, eqv2]
    have : ¬ [w.a, w.b] = [w.c, w.d] := fun z => by
      have e1 := (List.cons.inj z).1
      have e2 := (List.cons.inj (List.cons.inj z).2).1
      rcases r.ne with n | n
      · exact n e1
      · exact n e2
    rw [decide_eq_false this]
    rfl
  · refine decide_eq_true ?_
    rw [List.map_map]
    have e : (wname ∘ Wl.D) = (fun w : Wl => (Sum.inr w.n : Ky)) := rfl
    rw [e]
    have := List.Pairwise.map (S := fun a b : Ky => a ≠ b) (fun n : Str => (Sum.inr n : Ky)) (fun a b hab z => hab (Sum.inr.inj z)) h.nd
    rwa [List.map_map] at this
theorem Row.ok {wl : List Wl} (h : Row wl) : ∀ w ∈ wl, Wl.Ok w := fun w hw => by
  have r := h.real w hw
  exact ⟨sm60 r.a r.b, sm60 r.c r.d, r.ne⟩
theorem Row.sub {wl vl : List Wl} (h : Row wl) (s : vl.Sublist wl) : Row vl := ⟨fun w hw => h.real w (s.subset hw), (s.map _).nodup h.nd⟩
/-! the walls of a pair exchanged -/
theorem turn_swap {a b c d e f g h : Int} (hne : a ≠ c ∨ b ≠ d) (h1 : turnI a b c d e f = 0) (h2 : turnI a b c d g h = 0) : turnI e f g h a b = 0 ∧ turnI e f g h c d = 0 := by
  unfold turnI at *
  rcases hne with n | n
  · have n : c - a ≠ 0 := by omega
    have z1 : (c - a) * ((g - e) * (b - f) - (h - f) * (a - e)) = 0 := by grind
    have z2 : (c - a) * ((g - e) * (d - f) - (h - f) * (c - e)) = 0 := by grind
    exact ⟨(Int.mul_eq_zero.mp z1).resolve_left n, (Int.mul_eq_zero.mp z2).resolve_left n⟩
  · have n : d - b ≠ 0 := by omega
    have z1 : (d - b) * ((g - e) * (b - f) - (h - f) * (a - e)) = 0 := by grind
    have z2 : (d - b) * ((g - e) * (d - f) - (h - f) * (c - e)) = 0 := by grind
    exact ⟨(Int.mul_eq_zero.mp z1).resolve_left n, (Int.mul_eq_zero.mp z2).resolve_left n⟩
theorem mx1_comm (i j : Int) : mx1 i j = mx1 j i := by unfold mx1; split <;> split <;> omega
theorem mn1_comm (i j : Int) : mn1 i j = mn1 j i := by unfold mn1; split <;> split <;> omega
theorem clash_swap {a b c d e f g h : Int} (hne : a ≠ c ∨ b ≠ d) (hne2 : e ≠ g ∨ f ≠ h) : clashB e f g h a b c d = clashB a b c d e f g h := by
  by_cases z : turnI a b c d e f = 0 ∧ turnI a b c d g h = 0
  · have y := turn_swap hne z.1 z.2
    rw [clash_line z.1 z.2, clash_line y.1 y.2]
    by_cases hx : a = c
    · have hy : b ≠ d := hne.resolve_left (fun n => n hx)
      have hx2 : e = g := by
        have t1 := z.1
        have t2 := z.2
        unfold turnI at t1 t2
        subst hx
        have n : d - b ≠ 0 := by omega
        have z1 : (d - b) * (e - g) = 0 := by grind
        have := (Int.mul_eq_zero.mp z1).resolve_left n
        omega
      have hy2 : f ≠ h := hne2.resolve_left (fun n => n hx2)
      rw [over_y hx hy z.1 z.2, over_y hx2 hy2 y.1 y.2, mx1_comm (mn1 f h), mn1_comm (mx1 f h)]
    · have hx2 : e ≠ g := fun q => by
        have hy2 : f ≠ h := hne2.resolve_left (fun n => n q)
        have t1 := y.1
        have t2 := y.2
        unfold turnI at t1 t2
        subst q
        have n : h - f ≠ 0 := by omega
        have z1 : (h - f) * (a - c) = 0 := by grind
        have := (Int.mul_eq_zero.mp z1).resolve_left n
        omega
      rw [over_x hx z.1 z.2, over_x hx2 y.1 y.2, mx1_comm (mn1 e g), mn1_comm (mx1 e g)]
  · have y : ¬ (turnI e f g h a b = 0 ∧ turnI e f g h c d = 0) := fun q => z (turn_swap hne2 q.1 q.2)
    rw [clash_off z, clash_off y, Bool.and_comm]
/-! texts put together -/
def dAddW : R2d := fun x y Q => dAddF x y Q ∨ ∃ a b, x = .str a ∧ y = .str b ∧ a.length + b.length ≤ sizeLine ∧ Q (.str (a ++ b))
theorem s2_addW {f : Fx} {K : PySem.W.Frag} : S2 f (rAdd K) dAddW := fun L σ H ρ v u x y Q R r dx dy q k => by
  rcases q with q | ⟨a, b, rfl, rfl, h, q⟩
  · exact s2_add L σ H ρ v u x y Q R r dx dy q k
  · cases dx
    cases dy
    exact .inr (.inr (.inr ⟨a, b, rfl, rfl, h, k _ H _ r.self (.str _) q⟩))
theorem str_assoc (a b c : Str) : a ++ b ++ c = a ++ (b ++ c) := by
  show (⟨_⟩ : Str) = ⟨_⟩
  congr 1
  exact Array.append_assoc
theorem shown_two (x y : PyData) : PyData.shown (.tuple [x, y]) = ("(" : Str) ++ x.shown ++ (", " : Str) ++ y.shown ++ (")" : Str) := by
  show ("(" : Str) ++ Str.join ", " [x.shown, y.shown] ++ (")" : Str) = _
  have e : Str.join ", " [x.shown, y.shown] = x.shown ++ (", " : Str) ++ y.shown := rfl
  rw [e, ← str_assoc, ← str_assoc]
theorem shown_len {n m : Nat} {x : PyData} (h : Rz n m x) : x.shown.length ≤ 2002 * n + 2000 := by
  have b := PyData.shown_le_bulk 2000 (by decide) x h.ls
  have := Nat.mul_le_mul_left 2002 h.bk
  omega
end Ey
set_option exponentiation.threshold 3000
/-! ### walls that are turned, mirrored, scaled, moved: they clash as before -/
namespace Ey
open PySem PySem.Spec PyProof.Rows L2
/-! along a line, by the scalar product -/
def dotI (a b c d e f : Int) : Int := (c - a) * (e - a) + (d - b) * (f - b)
theorem sq_pos {x : Int} (h : x ≠ 0) : 0 < x * x := by
  rcases Int.lt_or_gt_of_ne h with h | h
  · exact Int.mul_pos_of_neg_of_neg h h
  · exact Int.mul_pos h h
theorem sq_nn (x : Int) : 0 ≤ x * x := by
  by_cases h : x = 0
  · subst h
    decide
  · exact Int.le_of_lt (sq_pos h)
theorem over_neg {p q r s : Int} : decide (mx1 (mn1 (-p) (-q)) (mn1 (-r) (-s)) < mn1 (mx1 (-p) (-q)) (mx1 (-r) (-s))) = decide (mx1 (mn1 p q) (mn1 r s) < mn1 (mx1 p q) (mx1 r s)) := by
  have a : ∀ i j : Int, mn1 (-i) (-j) = -(mx1 i j) := fun i j => by unfold mn1 mx1; split <;> split <;> omega
  have b : ∀ i j : Int, mx1 (-i) (-j) = -(mn1 i j) := fun i j => by unfold mn1 mx1; split <;> split <;> omega
  simp only [a, b]
  rw [decide_eq_decide]
  omega
theorem mn1_mul {k i j : Int} (h : 0 < k) : mn1 (k * i) (k * j) = k * mn1 i j := by
  unfold mn1
  by_cases z : j < i
  · rw [if_pos z, if_pos (Int.mul_lt_mul_of_pos_left z h)]
  · rw [if_neg z, if_neg]
    intro y
    exact z (Int.lt_of_mul_lt_mul_left y (Int.le_of_lt h))
theorem mx1_mul {k i j : Int} (h : 0 < k) : mx1 (k * i) (k * j) = k * mx1 i j := by
  unfold mx1
  by_cases z : i < j
  · rw [if_pos z, if_pos (Int.mul_lt_mul_of_pos_left z h)]
  · rw [if_neg z, if_neg]
    intro y
    exact z (Int.lt_of_mul_lt_mul_left y (Int.le_of_lt h))
theorem over_mul {k p q r s : Int} (h : 0 < k) : decide (mx1 (mn1 (k * p) (k * q)) (mn1 (k * r) (k * s)) < mn1 (mx1 (k * p) (k * q)) (mx1 (k * r) (k * s))) = decide (mx1 (mn1 p q) (mn1 r s) < mn1 (mx1 p q) (mx1 r s)) := by
  rw [mn1_mul h, mn1_mul h, mx1_mul h, mx1_mul h, mx1_mul h, mn1_mul h, decide_eq_decide]
  exact ⟨fun y => Int.lt_of_mul_lt_mul_left y (Int.le_of_lt h), fun y => Int.mul_lt_mul_of_pos_left y h⟩
theorem over_mulN {k p q r s : Int} (h : k ≠ 0) : decide (mx1 (mn1 (k * p) (k * q)) (mn1 (k * r) (k * s)) < mn1 (mx1 (k * p) (k * q)) (mx1 (k * r) (k * s))) = decide (mx1 (mn1 p q) (mn1 r s) < mn1 (mx1 p q) (mx1 r s)) := by
  rcases Int.lt_or_gt_of_ne h with h | h
  · have e : ∀ i : Int, k * i = -((-k) * i) := fun i => by rw [Int.neg_mul, Int.neg_neg]
    rw [e p, e q, e r, e s, over_neg, over_mul (by omega)]
  · exact over_mul h
theorem mn1_add (i j t : Int) : mn1 (i + t) (j + t) = mn1 i j + t := by unfold mn1; split <;> split <;> omega
theorem mx1_add (i j t : Int) : mx1 (i + t) (j + t) = mx1 i j + t := by unfold mx1; split <;> split <;> omega
theorem over_add (p q r s t : Int) : decide (mx1 (mn1 (p + t) (q + t)) (mn1 (r + t) (s + t)) < mn1 (mx1 (p + t) (q + t)) (mx1 (r + t) (s + t))) = decide (mx1 (mn1 p q) (mn1 r s) < mn1 (mx1 p q) (mx1 r s)) := by
  rw [mn1_add, mn1_add, mx1_add, mx1_add, mx1_add, mn1_add, decide_eq_decide]
  omega
/-- walls on one line overlap as their places along it do -/
theorem over_dot {a b c d e f g h : Int} (hne : a ≠ c ∨ b ≠ d) (h1 : turnI a b c d e f = 0) (h2 : turnI a b c d g h = 0) :
    clashB a b c d e f g h = decide (mx1 (mn1 0 (dotI a b c d c d)) (mn1 (dotI a b c d e f) (dotI a b c d g h)) < mn1 (mx1 0 (dotI a b c d c d)) (mx1 (dotI a b c d e f) (dotI a b c d g h))) := by
  have lp : 0 < dotI a b c d c d := by
    unfold dotI
    rcases hne with n | n
    · have := sq_pos (x := c - a) (by omega)
      have := sq_nn (d - b)
      omega
    · have := sq_pos (x := d - b) (by omega)
      have := sq_nn (c - a)
      omega
  rw [clash_line h1 h2]
  by_cases hx : a = c
  · have hy : b ≠ d := hne.resolve_left fun n => n hx
    rw [over_y hx hy h1 h2]
    have k : d - b ≠ 0 := by omega
    unfold turnI at h1 h2
    have e0 : dotI a b c d c d = (d - b) * (d - b) := by unfold dotI; subst hx; grind
    have e1 : dotI a b c d e f = (d - b) * (f - b) := by
      unfold dotI
      subst hx
      grind
    have e2 : dotI a b c d g h = (d - b) * (h - b) := by
      unfold dotI
      subst hx
      grind
    rw [e0, e1, e2, show (0 : Int) = (d - b) * (b - b) by grind, over_mulN k, ← over_add b d f h (-b)]
    rfl
  · rw [over_x hx h1 h2]
    have k : c - a ≠ 0 := by omega
    have q : ∀ {x y : Int}, turnI a b c d x y = 0 → (c - a) * dotI a b c d x y = (dotI a b c d c d) * (x - a) := fun {x y} z => by
      unfold turnI at z
      unfold dotI
      grind
    have q0 : (c - a) * dotI a b c d c d = (dotI a b c d c d) * (c - a) := Int.mul_comm _ _
    have := over_mulN (k := c - a) (p := 0) (q := dotI a b c d c d) (r := dotI a b c d e f) (s := dotI a b c d g h) k
    rw [← this, q h1, q h2, q0, show (c - a) * 0 = (dotI a b c d c d) * (a - a) by grind, over_mul lp, ← over_add a c e g (-a)]
    rfl
/-! a likeness of the plane: a linear map and a move -/
structure Like (α β γ δ D S : Int) : Prop where
  det : α * δ - β * γ = D
  d0 : D ≠ 0
  s0 : 0 < S
  c1 : α * α + γ * γ = S
  c2 : β * β + δ * δ = S
  c3 : α * β + γ * δ = 0
section
variable {α β γ δ D S x y : Int} (L : Like α β γ δ D S)
include L
theorem like_turn (a b c d e f : Int) : turnI (α * a + β * b + x) (γ * a + δ * b + y) (α * c + β * d + x) (γ * c + δ * d + y) (α * e + β * f + x) (γ * e + δ * f + y) = D * turnI a b c d e f := by
  rw [← L.det]
  unfold turnI
  grind
theorem like_dot (a b c d e f : Int) : dotI (α * a + β * b + x) (γ * a + δ * b + y) (α * c + β * d + x) (γ * c + δ * d + y) (α * e + β * f + x) (γ * e + δ * f + y) = S * dotI a b c d e f := by
  have h1 := L.c1
  have h2 := L.c2
  have h3 := L.c3
  have e1 : dotI (α * a + β * b + x) (γ * a + δ * b + y) (α * c + β * d + x) (γ * c + δ * d + y) (α * e + β * f + x) (γ * e + δ * f + y) =
      (α * α + γ * γ) * ((c - a) * (e - a)) + (β * β + δ * δ) * ((d - b) * (f - b)) + (α * β + γ * δ) * ((c - a) * (f - b) + (d - b) * (e - a)) := by
    unfold dotI
    grind
  rw [e1, h1, h2, h3]
  unfold dotI
  grind
theorem like_ne {a b c d : Int} (h : a ≠ c ∨ b ≠ d) : α * a + β * b + x ≠ α * c + β * d + x ∨ γ * a + δ * b + y ≠ γ * c + δ * d + y := by
  by_cases e1 : α * a + β * b + x = α * c + β * d + x
  · refine .inr fun e2 => ?_
    have z1 : D * (c - a) = 0 := by
      rw [← L.det]
      grind
    have z2 : D * (d - b) = 0 := by
      rw [← L.det]
      grind
    have y1 := (Int.mul_eq_zero.mp z1).resolve_left L.d0
    have y2 := (Int.mul_eq_zero.mp z2).resolve_left L.d0
    rcases h with h | h <;> omega
  · exact .inl e1
theorem like_clash {a b c d e f g h : Int} (hne : a ≠ c ∨ b ≠ d) :
    clashB (α * a + β * b + x) (γ * a + δ * b + y) (α * c + β * d + x) (γ * c + δ * d + y) (α * e + β * f + x) (γ * e + δ * f + y) (α * g + β * h + x) (γ * g + δ * h + y) = clashB a b c d e f g h := by
  have zz : ∀ {t : Int}, D * t = 0 ↔ t = 0 := fun {t} => ⟨fun z => (Int.mul_eq_zero.mp z).resolve_left L.d0, fun z => by rw [z, Int.mul_zero]⟩
  by_cases z : turnI a b c d e f = 0 ∧ turnI a b c d g h = 0
  · rw [over_dot hne z.1 z.2, over_dot (like_ne L hne) (by rw [like_turn L]; exact zz.mpr z.1) (by rw [like_turn L]; exact zz.mpr z.2), like_dot L, like_dot L, like_dot L]
    have := over_mul (k := S) (p := 0) (q := dotI a b c d c d) (r := dotI a b c d e f) (s := dotI a b c d g h) L.s0
    rw [Int.mul_zero] at this
    exact this
  · rw [clash_off z, clash_off (by rw [like_turn L, like_turn L, zz, zz]; exact z), like_turn L, like_turn L, like_turn L, like_turn L]
    have dd := sq_pos L.d0
    have sg : ∀ s t : Int, decide (D * s * (D * t) < 0) = decide (s * t < 0) := fun s t => by
      rw [show D * s * (D * t) = (D * D) * (s * t) by grind, decide_eq_decide]
      constructor
      · intro y
        refine Classical.byContradiction fun n => ?_
        have := Int.mul_nonneg (Int.le_of_lt dd) (show 0 ≤ s * t by omega)
        omega
      · intro y
        exact Int.mul_neg_of_pos_of_neg dd y
    rw [sg, sg]
end
/-- the ends of the second one exchanged -/
theorem clash_turn2 {a b c d e f g h : Int} (hne : a ≠ c ∨ b ≠ d) : clashB a b c d g h e f = clashB a b c d e f g h := by
  by_cases z : turnI a b c d e f = 0 ∧ turnI a b c d g h = 0
  · rw [over_dot hne z.1 z.2, over_dot hne z.2 z.1, mn1_comm (dotI a b c d g h), mx1_comm (dotI a b c d g h)]
  · rw [clash_off z, clash_off (fun y => z ⟨y.2, y.1⟩)]
    have e1 : ∀ u v : Int, turnI g h e f u v = -turnI e f g h u v := fun u v => by unfold turnI; grind
    rw [e1, e1, Int.neg_mul_neg, Int.mul_comm (turnI a b c d g h)]
theorem clash_turn1 {a b c d e f g h : Int} (hne : a ≠ c ∨ b ≠ d) (hne2 : e ≠ g ∨ f ≠ h) : clashB c d a b e f g h = clashB a b c d e f g h := by
  rw [← clash_swap (hne.imp Ne.symm Ne.symm) hne2, clash_turn2 hne2, clash_swap hne hne2]
/-! the moves of a law -/
theorem rot_lin : ∀ n : Nat, ∃ α β γ δ : Int, (∀ a b, rotI n (a, b) = (α * a + β * b, γ * a + δ * b)) ∧ Like α β γ δ 1 1
  | 0 => ⟨1, 0, 0, 1, fun a b => by
      show (a, b) = _
      simp, ⟨by decide, by decide, by decide, by decide, by decide, by decide⟩⟩
  | n + 1 => by
    obtain ⟨α, β, γ, δ, h, L⟩ := rot_lin n
    refine ⟨-γ, -δ, α, β, fun a b => ?_, ⟨?_, by decide, by decide, ?_, ?_, ?_⟩⟩
    · show (-(rotI n (a, b)).2, (rotI n (a, b)).1) = _
      rw [h]
      simp only
      refine Prod.ext ?_ rfl
      show -(γ * a + δ * b) = -γ * a + -δ * b
      grind
    · have := L.det
      grind
    · have := L.c1
      grind
    · have := L.c2
      grind
    · have := L.c3
      grind
theorem mov_like (k : Nat) (mir : Bool) {s : Int} (hs : s ≠ 0) : ∃ α β γ δ D S : Int, (∀ a b, movI k mir s a b = (α * a + β * b, γ * a + δ * b)) ∧ Like α β γ δ D S := by
  obtain ⟨α, β, γ, δ, h, L⟩ := rot_lin k
  have ss := sq_pos hs
  have h1 := L.det
  have h2 := L.c1
  have h3 := L.c2
  have h4 := L.c3
  cases mir with
  | true =>
    refine ⟨-α * s, β * s, -γ * s, δ * s, -(s * s), s * s, fun a b => ?_, ⟨?_, by omega, ss, ?_, ?_, ?_⟩⟩
    · show ((rotI k (-a, b)).1 * s, (rotI k (-a, b)).2 * s) = _
      rw [h]
      refine Prod.ext ?_ ?_
      · show (α * -a + β * b) * s = -α * s * a + β * s * b
        grind
      · show (γ * -a + δ * b) * s = -γ * s * a + δ * s * b
        grind
    · have : -α * s * (δ * s) - β * s * (-γ * s) = -(s * s) * (α * δ - β * γ) := by grind
      rw [this, h1]
      grind
    · have : -α * s * (-α * s) + -γ * s * (-γ * s) = s * s * (α * α + γ * γ) := by grind
      rw [this, h2]
      grind
    · have : β * s * (β * s) + δ * s * (δ * s) = s * s * (β * β + δ * δ) := by grind
      rw [this, h3]
      grind
    · have : -α * s * (β * s) + -γ * s * (δ * s) = -(s * s) * (α * β + γ * δ) := by grind
      rw [this, h4]
      grind
  | false =>
    refine ⟨α * s, β * s, γ * s, δ * s, s * s, s * s, fun a b => ?_, ⟨?_, by omega, ss, ?_, ?_, ?_⟩⟩
    · show ((rotI k (a, b)).1 * s, (rotI k (a, b)).2 * s) = _
      rw [h]
      refine Prod.ext ?_ ?_
      · show (α * a + β * b) * s = α * s * a + β * s * b
        grind
      · show (γ * a + δ * b) * s = γ * s * a + δ * s * b
        grind
    · have : α * s * (δ * s) - β * s * (γ * s) = (s * s) * (α * δ - β * γ) := by grind
      rw [this, h1]
      grind
    · have : α * s * (α * s) + γ * s * (γ * s) = s * s * (α * α + γ * γ) := by grind
      rw [this, h2]
      grind
    · have : β * s * (β * s) + δ * s * (δ * s) = s * s * (β * β + δ * δ) := by grind
      rw [this, h3]
      grind
    · have : α * s * (β * s) + γ * s * (δ * s) = (s * s) * (α * β + γ * δ) := by grind
      rw [this, h4]
      grind
/-! pairs of places -/
def clash2 : PyData → PyData → Bool
  | .tuple [.tuple [.int a, .int b], .tuple [.int c, .int d]], .tuple [.tuple [.int e, .int f], .tuple [.int g, .int h]] => clashB a b c d e f g h
  | _, _ => false
def Off (p q : PyData) : Prop := clash2 p q = false
def pwB : List PyData → Bool
  | [] => true
  | p :: ps => (ps.all fun q => !clash2 p q) && pwB ps
theorem pwB_is : ∀ {ps : List PyData}, pwB ps = true → ps.Pairwise Off
  | [], _ => List.Pairwise.nil
  | p :: ps, h => by
    unfold pwB at h
    rw [Bool.and_eq_true, List.all_eq_true] at h
    exact List.Pairwise.cons (fun q hq => by simpa [Off] using h.1 q hq) (pwB_is h.2)
def rowP : PyData → Bool
  | .tuple ps => rowN (.tuple ps) && pwB ps
  | _ => false
def layP : PyData → Bool
  | .list ls => decide (ls.length = 10) && ls.all rowP
  | _ => false
theorem rowP_is {x : PyData} (h : rowP x = true) : ∃ ps, x = .tuple ps ∧ ps.length ≤ 10 ∧ (∀ p ∈ ps, qB 12 p = true ∧ qnB p = true) ∧ ps.Pairwise Off := by
  unfold rowP at h
  split at h
  · rw [Bool.and_eq_true] at h
    obtain ⟨ps, e, hl, hp⟩ := rowN_is h.1
    cases e
    exact ⟨_, rfl, hl, hp, pwB_is h.2⟩
  · cases h
theorem layP_is {x : PyData} (h : layP x = true) : ∃ ls, x = .list ls ∧ ls.length = 10 ∧ ∀ p ∈ ls, rowP p = true := by
  unfold layP at h
  split at h
  · simp only [Bool.and_eq_true, decide_eq_true_eq, List.all_eq_true] at h
    exact ⟨_, rfl, h⟩
  · cases h
/-- a pair moved -/
def imgP (k : Nat) (mir : Bool) (s x y : Int) : PyData → PyData
  | .tuple [.tuple [.int a, .int b], .tuple [.int c, .int d]] => .tuple [prD ((movI k mir s a b).1 + x) ((movI k mir s a b).2 + y), prD ((movI k mir s c d).1 + x) ((movI k mir s c d).2 + y)]
  | p => p
theorem img_off {k : Nat} {mir : Bool} {s x y : Int} (hs : s ≠ 0) {a b c d e f g h : Int} (hne : a ≠ c ∨ b ≠ d) : clash2 (imgP k mir s x y (.tuple [prD a b, prD c d])) (imgP k mir s x y (.tuple [prD e f, prD g h])) = clash2 (.tuple [prD a b, prD c d]) (.tuple [prD e f, prD g h]) := by
  obtain ⟨α, β, γ, δ, D, S, m, L⟩ := mov_like k mir hs
  show clashB ((movI k mir s a b).1 + x) ((movI k mir s a b).2 + y) ((movI k mir s c d).1 + x) ((movI k mir s c d).2 + y) ((movI k mir s e f).1 + x) ((movI k mir s e f).2 + y) ((movI k mir s g h).1 + x) ((movI k mir s g h).2 + y) = clashB a b c d e f g h
  rw [m, m, m, m]
  exact like_clash L hne
def clashOff (v w : Wl) : Prop := clashW v w = false
theorem zip_plan : ∀ {ns : List Str} {ps : List PyData}, (∀ n ∈ ns, n ∈ tenS) → (∀ p ∈ ps, qB 60 p = true ∧ qnB p = true) → ps.Pairwise Off → ∃ wl : List Wl, (zipD (ns.map .str) ps).map wallOf = wl.map Wl.D ∧ (wl.map (·.n)).Sublist ns ∧ wl.length ≤ ps.length ∧ (∀ w ∈ wl, w.Real ∧ PyData.tuple [prD w.a w.b, prD w.c w.d] ∈ ps) ∧ wl.Pairwise clashOff
  | [], ps, _, _, _ => ⟨[], by cases ps <;> rfl, List.Sublist.refl _, Nat.zero_le _, (fun _ h => by cases h), List.Pairwise.nil⟩
  | n :: ns, [], _, _, _ => ⟨[], rfl, List.nil_sublist _, Nat.zero_le _, (fun _ h => by cases h), List.Pairwise.nil⟩
  | n :: ns, p :: ps, hn, hp, hw => by
    obtain ⟨wl, e, s, l, r, o⟩ := zip_plan (ns := ns) (ps := ps) (fun m hm => hn m (List.mem_cons_of_mem _ hm)) (fun q hq => hp q (List.mem_cons_of_mem _ hq)) (List.pairwise_cons.mp hw).2
    obtain ⟨h1, h2⟩ := hp p List.mem_cons_self
    obtain ⟨a, b, c, d, rfl, b1, b2, b3, b4⟩ := qB_is h1
    have k := okS_is (ten_ok n (hn n List.mem_cons_self))
    refine ⟨⟨n, a, b, c, d⟩ :: wl, ?_, ?_, ?_, fun w hw => ?_, List.Pairwise.cons (fun w hw2 => ?_) o⟩
    · show PyData.tuple [.str n, prD a b, prD c d] :: (zipD (ns.map .str) ps).map wallOf = _
      rw [e]
      rfl
    · exact s.cons_cons n
    · rw [List.length_cons, List.length_cons]
      omega
    · rcases List.mem_cons.mp hw with rfl | hw
      · exact ⟨⟨⟨k.2, b1, b2, b3, b4⟩, k.1, qn_is h2⟩, List.mem_cons_self⟩
      · exact ⟨(r w hw).1, List.mem_cons_of_mem _ (r w hw).2⟩
    · exact (List.pairwise_cons.mp hw).1 _ (r w hw2).2
/-- drawn plans -/
structure Pln (wl : List Wl) : Prop extends Row wl where
  off : wl.Pairwise clashOff
theorem Pln.free {wl : List Wl} (h : Pln wl) : freeB wl = true := by
  have hr : FirstIs (clashAt wl) wl.length none := fun i j hij hj => by
    rw [clash_at (by omega) hj]
    exact List.pairwise_iff_getElem.mp h.off i j (by omega) hj hij
  rw [free_first hr]
  rfl
theorem Pln.plan {wl : List Wl} (h : Pln wl) : planB (.tuple (wl.map Wl.D)) = true := by
  unfold planB
  rw [h.toRow.apart, wlOf_D, h.free]
  rfl
end Ey
/-! ### texts: join, split, removeprefix, f-strings, int of a text, enumerate from 1 -/
namespace Ey
open PySem PySem.Spec PyProof.Rows L2
section
variable {X : Cx} {K : PySem.W.Frag} {o e : Expr} {to te : TE} {apos pos : Pos}
abbrev rJoin (K : PySem.W.Frag) : V → List V → Hp → VK → Prop := fun x xs H Q => ∃ a p, ∃ ys : List Str, x = .str a ∧ xs = [.ref p] ∧ (SqL K H p (ys.map V.str) ∨ SqT K H p (ys.map V.str)) ∧ (ys.map (·.length)).sum + ys.length * a.length ≤ 16777216 ∧ Q (.str (Txt.join a ys)) H
abbrev rSplit : V → List V → Hp → VK → Prop := fun x xs H Q => ∃ a b, x = .str a ∧ xs = [.str b] ∧ (b.length == 0) = false ∧ a.length + 2 ≤ sizeLine ∧ rNewStrs (Txt.split a b) H Q
abbrev rRmPre : V → List V → Hp → VK → Prop := fun x xs H Q => ∃ a b, x = .str a ∧ xs = [.str b] ∧ a.length ≤ sizeLine ∧ Q (.str (Txt.removeprefix a b)) H
theorem qe_join (hK : X.K = K) (ho : PE X o to) (he : PE X e te) (h1 : starEach [e] X.env = [(false, eval e X.env)] := by rfl) (h2 : attributeBase o "join" X.env (eval o X.env) = eval o X.env := by rfl) (h3 : (apos.endLine == pos.line) = true := by rfl) :
    PE X (.Call (.Attribute o "join" apos) [e] [] pos) (tM1 (rJoin K) to te) := by
  subst hK
  exact pe_join ho he h1 h2 h3
theorem qe_split (ho : PE X o to) (he : PE X e te) (h1 : starEach [e] X.env = [(false, eval e X.env)] := by rfl) (h2 : attributeBase o "split" X.env (eval o X.env) = eval o X.env := by rfl) (h3 : (apos.endLine == pos.line) = true := by rfl) :
    PE X (.Call (.Attribute o "split" apos) [e] [] pos) (tM1 rSplit to te) := pe_split ho he h1 h2 h3
theorem qe_rmpre (ho : PE X o to) (he : PE X e te) (h1 : starEach [e] X.env = [(false, eval e X.env)] := by rfl) (h2 : attributeBase o "removeprefix" X.env (eval o X.env) = eval o X.env := by rfl) (h3 : (apos.endLine == pos.line) = true := by rfl) :
    PE X (.Call (.Attribute o "removeprefix" apos) [e] [] pos) (tM1 rRmPre to te) := pe_m1 PySem.F.slot_str_removeprefix PySem.F.type_str_removeprefix mt_removeprefix ho he h1 h2 h3
end
def dJoin (t u : DE) : DE := fun ρ Q => t ρ fun x => onStr x fun a => u ρ fun y => onLst y fun xs => ∃ ys : List Str, xs = ys.map .str ∧ (ys.map (·.length)).sum + ys.length * a.length ≤ 1000000 ∧ Q (.str (Txt.join a ys))
def dSplit (t u : DE) : DE := fun ρ Q => t ρ fun x => onStr x fun a => u ρ fun y => onStr y fun b => 0 < b.length ∧ a.length ≤ 1000000 ∧ Q (.list ((Txt.split a b).map .str))
def dRmPre (t u : DE) : DE := fun ρ Q => t ρ fun x => onStr x fun a => u ρ fun y => onStr y fun b => a.length ≤ 1000000 ∧ Q (.str (Txt.removeprefix a b))
section
variable {f : Fx} {ta tb : TE} {da db : DE}
theorem dds_strs {F : Addr → Prop} {H : Hp} : ∀ {vs : List V} {ns : List Str}, DdAll F H vs (ns.map .str) → vs = ns.map V.str
  | _, [], h => by
    cases h
    rfl
  | _, n :: ns, h => by
    cases h with
    | cons a b =>
      cases a
      rw [dds_strs b]
      rfl
theorem strs_dds {F : Addr → Prop} {H : Hp} : ∀ {ns : List Str}, DdAll F H (ns.map V.str) (ns.map PyData.str)
  | [] => .nil
  | n :: ns => .cons (.str n) strs_dds
theorem se_join {K : PySem.W.Frag} (h1 : SE f ta da) (h2 : SE f tb db) : SE f (tM1 (rJoin K) ta tb) (dJoin da db) := fun L σ H ρ Q R r q k =>
  h1 L σ H ρ _ _ r q fun v H1 x g dx q => by
    replace q := inv_str q
    obtain ⟨a, rfl, q⟩ := q
    cases dx
    refine ⟨⟨a, rfl⟩, h2 L σ H1 ρ _ _ (r.mv g) q fun u H2 y g2 dy q => ?_⟩
    replace q := inv_lst q
    obtain ⟨xs, rfl, ys, rfl, hl, q⟩ := q
    cases dy with
    | lst fa e c =>
      rw [dds_strs c] at e
      exact ⟨a, _, ys, rfl, rfl, .inl (SqL.of e), Nat.le_trans hl (by decide), k _ _ _ (g.trans g2) (.str _) q⟩
theorem se_split (h1 : SE f ta da) (h2 : SE f tb db) : SE f (tM1 rSplit ta tb) (dSplit da db) := fun L σ H ρ Q R r q k =>
  h1 L σ H ρ _ _ r q fun v H1 x g dx q => by
    replace q := inv_str q
    obtain ⟨a, rfl, q⟩ := q
    cases dx
    refine ⟨⟨a, rfl⟩, h2 L σ H1 ρ _ _ (r.mv g) q fun u H2 y g2 dy q => ?_⟩
    replace q := inv_str q
    obtain ⟨b, rfl, h0, hl, q⟩ := q
    cases dy
    refine ⟨a, b, rfl, rfl, beq_false_of_ne (Nat.ne_of_gt h0), ?_, fun p np => ?_⟩
    · exact Nat.le_trans (Nat.add_le_add_right hl 2) (by decide)
    · have r2 := r.mv (g.trans g2)
      exact k _ _ _ ((g.trans g2).new np) (.lst (r2.opn np) upd_same strs_dds) q
theorem se_rmpre (h1 : SE f ta da) (h2 : SE f tb db) : SE f (tM1 rRmPre ta tb) (dRmPre da db) := fun L σ H ρ Q R r q k =>
  h1 L σ H ρ _ _ r q fun v H1 x g dx q => by
    replace q := inv_str q
    obtain ⟨a, rfl, q⟩ := q
    cases dx
    refine ⟨⟨a, rfl⟩, h2 L σ H1 ρ _ _ (r.mv g) q fun u H2 y g2 dy q => ?_⟩
    replace q := inv_str q
    obtain ⟨b, rfl, hl, q⟩ := q
    cases dy
    exact ⟨a, b, rfl, rfl, Nat.le_trans hl (by decide), k _ _ _ (g.trans g2) (.str _) q⟩
/-! f-strings -/
def dFmt (t : DE) : DE := fun ρ Q => t ρ fun x => byD x (z := fun y => y.length ≤ 100000 ∧ Q (.str y)) (i := fun i => i.natAbs.log2 < 1920 ∧ Q (.str (toString i)))
theorem se_fmt (h : SE f ta da) : SE f (tFmt ta) (dFmt da) := fun L σ H ρ Q R r q k =>
  h L σ H ρ _ _ r q fun v H1 x g dx q => by
    cases dx with
    | str y => exact .inl ⟨y, rfl, Nat.le_trans q.1 (by decide), k _ _ _ g (.str _) q.2⟩
    | int i => exact .inr ⟨i, rfl, q.1, k _ _ _ g (.str _) q.2⟩
    | _ => exact q.elim
def dJs : List DE → Str → Env → (Str → Prop) → Prop
  | [], acc, _, Q => Q acc
  | t :: ts, acc, ρ, Q => t ρ fun x => onStr x fun y => (acc ++ y).length ≤ 100000 ∧ dJs ts (acc ++ y) ρ Q
inductive SJ (f : Fx) : List TE → List DE → Prop
  | nil : SJ f [] []
  | cons {t : TE} {d : DE} {ts : List TE} {ds : List DE} : SE f t d → SJ f ts ds → SJ f (t :: ts) (d :: ds)
theorem sj_run {ts : List TE} {ds : List DE} (h : SJ f ts ds) : ∀ (acc : Str) (L : List Addr) (σ : L2.St) (H : Hp) (ρ : Env) (Q : Str → Prop) (R : Str → Hp → Prop), Rel f L σ H ρ → dJs ds acc ρ Q → (∀ y H', Go f H H' → Q y → R y H') → tJs ts acc σ H R := by
  induction h with
  | nil => exact fun acc L σ H ρ Q R r q k => k acc H r.self q
  | cons h _ ih =>
    intro acc L σ H ρ Q R r q k
    refine h L σ H ρ _ _ r q fun v H1 x g dx q => ?_
    replace q := inv_str q
    obtain ⟨y, rfl, hl, q⟩ := q
    cases dx
    exact ⟨y, rfl, Nat.le_trans hl (by decide), ih _ L σ H1 ρ _ _ (r.mv g) q fun z H2 g2 q => k z H2 (g.trans g2) q⟩
def dJoined (ts : List DE) : DE := fun ρ Q => dJs ts Str.empty ρ fun y => Q (.str y)
theorem se_joined {ts : List TE} {ds : List DE} (h : SJ f ts ds) : SE f (fun σ H Q => tJs ts Str.empty σ H fun out H1 => Q (.str out) H1) (dJoined ds) := fun L σ H ρ Q R r q k =>
  sj_run h _ L σ H ρ _ _ r q fun y H' g q => k _ H' _ g (.str y) q
/-! int of a text -/
def rIntS : List V → Hp → VK → Prop := fun xs H Q => rInt1 xs H Q ∨ ∃ a n, xs = [.str a] ∧ PySem.intText? a = some n ∧ a.length ≤ 640 ∧ Q (.int n) H
theorem cr_intS {X : Cx} : CallR X (.type "int") rIntS := call_int1.or call_int_str
def dIntS : RNd := fun xs Q => onOne xs fun x => byD x (i := fun i => Q (.int i)) (z := fun a => a.length ≤ 640 ∧ onSome (PySem.intText? a) fun n => Q (.int n))
theorem sn_intS : SN f rIntS dIntS := fun L σ H ρ vs xs Q R r d q k => by
  replace q := inv_one q
  obtain ⟨x, rfl, q⟩ := q
  cases d with
  | cons a b =>
    cases b
    cases a with
    | int i => exact .inl (.inl ⟨i, rfl, k _ H _ r.self (.int _) q⟩)
    | str z =>
      obtain ⟨hl, q⟩ := q
      replace q := inv_some q
      obtain ⟨n, e, q⟩ := q
      exact .inr ⟨z, n, rfl, e, hl, k _ H _ r.self (.int _) q⟩
    | _ => exact q.elim
end
/-! enumerate(xs, start=1) -/
def Ite1 (K : PySem.W.Frag) (a : Addr) : It :=
  ⟨fun i H => ∃ (xs : List V) (x : V), SqL K H a xs ∧ xs[i]? = some x, fun i H v H' => ∃ T x, v = .ref T ∧ H T = none ∧ H' = upd H T (.tup [.int (1 + (i : Nat)), x]) ∧ ∀ xs, SqL K H a xs → xs[i]? = some x, fun i H => ∃ xs : List V, SqL K H a xs ∧ xs.length = i⟩
theorem turn_enum1 {P : Program} {w : World} {K : PySem.W.Frag} {elts : List Expr} {kk : Nat} {tpos : Pos} (a e it : Addr) :
    Turn P w K (.Tuple elts kk tpos) (Ite1 K a) [e, it] e (fun i h => (∃ ov, IsEnum h e it (1 + ((i : Nat) : Int)) ov) ∧ h.IsListIter it a i ∧ e ≠ it ∧ e ≠ a ∧ a ≠ it) where
  mem := by simp
  obj := fun i h st b hb => by
    obtain ⟨⟨ov, he⟩, ⟨o, ho, hc, hd⟩, _⟩ := st
    rcases List.mem_cons.mp hb with zz | zz
    · subst zz
      exact ⟨_, he, fun v q => nomatch q⟩
    · rw [List.mem_singleton.mp zz]
      exact ⟨o, ho, fun v q => by rw [hd] at q; cases q⟩
  keep := fun i h h' st k => let ⟨⟨ov, he⟩, hi, hne⟩ := st; ⟨⟨ov, k e (by simp) _ he⟩, hi.at fun o q => k it (by simp) o q, hne⟩
  item := by
    intro X hP hw hK hc i ps s σ H E I hf st hg
    subst hP; subst hw; subst hK
    obtain ⟨⟨ov, he⟩, hit, n1, n2, n3⟩ := st
    obtain ⟨xs, x, hq, hx⟩ := hg
    obtain ⟨its, rv, p, hz⟩ := I.list hq
    obtain ⟨u, hu, wu⟩ := rv.get hx
    have hd3 : X.A.in1.handled = none := by simp [I.ok.hd hc]
    have lt : i < its.toArray.size := by
      have := (List.getElem?_eq_some_iff.mp hu).1
      simpa using this
    have G := GoesN.enumFrom (elts := elts) (x1 := kk) (pos := tpos) 1 (Draws.list (prog := X.prog) (w := X.w) hd3 it a n3 its.toArray) e n1 (by simp [n1, n2]) (by simp)
    refine G.goes i s _ E lt ⟨⟨ov, he⟩, hit, p.isList⟩ fun v g tk y st2 keep le => ?_
    obtain ⟨T, t, x2, rfl, hT, hp, htup⟩ := y
    have ey : x2 = u := by
      have h : its[i]? = some x2 := by simpa using hp
      rw [hu] at h
      exact (Option.some.inj h).symm
    subst ey
    obtain ⟨oT, e1, e2, nT, e3⟩ := htup
    have nH : H T = none := I.hok.fresh hT
    have new : ObjOk X.prog X.w (upd H T (.tup [.int (1 + (i : Nat)), x])) g T (.tup [.int (1 + (i : Nat)), x]) := ⟨by show 2 ≤ sizeLine; decide, [.int (1 + (i : Nat)) t, x2], .cons ⟨_, rfl⟩ (.cons wu .nil), ⟨oT, e1, e2, nT, e3⟩⟩
    have I1 : Inv X ps σ (upd H T (.tup [.int (1 + (i : Nat)), x])) { s with heap := g, toks := tk } :=
      I.turnedNew (ch := [e, it]) (fun b ob hb q => keep b ob hb q) hf hT new
    have lb : ∀ b ∈ [e, it], b < s.heap.objs.size := fun b hb => by
      rcases List.mem_cons.mp hb with zz | zz
      · rw [zz]; exact Heap.lt_size he
      · rw [List.mem_singleton.mp zz]; obtain ⟨_, q, _⟩ := hit; exact Heap.lt_size q
    refine ⟨.ref T, _, I1, rfl, ⟨T, x, rfl, nH, rfl, fun ys hy => by rw [I.list_inj hy hq]; exact hx⟩, ⟨st2.1, st2.2.1, n1, n2, n3⟩, fun b hb => ?_⟩
    rw [upd_ne (Nat.ne_of_lt (Nat.lt_of_lt_of_le (lb b hb) hT))]
    exact (hf b hb).1
  done := by
    intro X hP hw hK hc i ps s σ H E I hf st hg
    subst hP; subst hw; subst hK
    obtain ⟨⟨ov, he⟩, hit, n1, n2, n3⟩ := st
    obtain ⟨xs, hq, hx⟩ := hg
    obtain ⟨its, rv, p, hz⟩ := I.list hq
    obtain ⟨g0, g1, g2, g3, g4, g5⟩ := hf it (by simp)
    have hd3 : X.A.in1.handled = none := by simp [I.ok.hd hc]
    have e1 : i = its.toArray.size := by rw [← hx, rv.length]; simp
    subst e1
    exact wpAny_pyNext_enum_endD (Draws.list hd3 it a n3 its.toArray) he ⟨hit, p.isList⟩ fun g eb => ⟨rfl, I.turned (t' := s.toks) (fun b o hb q => eb b o hb q) g0 g1 g3 g4 g5⟩
  self := fun _ _ _ _ _ st h => by
    obtain ⟨⟨_, he⟩, _⟩ := st
    exact wpAny_pyIter_enum he h
def iEnum1 (K : PySem.W.Frag) (ta : TA) : TI := fun σ H R => ta σ H fun vs H1 => ∃ a xs, vs = [.ref a] ∧ SqL K H1 a xs ∧ R (Ite1 K a) H1
theorem callWith_typeK {M : Model} {A : Around} {E : Value → Shared → Prop} {s : Shared} {env : PySem.Env} {pos : Pos} {T : String} {e : Expr} {rest : List Expr} {kws : List Keyword} {Q : Value → Shared → Prop}
    (hall : ((backToKw pos (keywordEach kws env)).all (·.1.isSome)) = true)
    (h : wpAny M A (spliced (backTo pos (starEach (e :: rest) env))) (fun vs s1 => wpAny M A (evalAll ((backToKw pos (keywordEach kws env)).map (·.2))) (fun ks s2 => wpAny M A (call (.type T) vs (((backToKw pos (keywordEach kws env)).filterMap (·.1)).zip ks)) Q E s2) E s1) E s)
    (hs : ((backTo pos (starEach (e :: rest) env)).any (·.1) || (backToKw pos (keywordEach kws env)).any (·.1.isNone)) = false)
    (he : starEach (e :: rest) env = (false, eval e env) :: starEach rest env) :
    wpAny M A (callWith pos (.type T) [] (backTo pos (starEach (e :: rest) env)) (backToKw pos (keywordEach kws env))) Q E s := by
  refine W.callWith_of (P := fun _ => True) hs (fun h _ => ⟨.machine, .inr (.inl rfl), fun A Q E s _ q => wpAny_pure q⟩) ?_
  refine evalArgs_kw2 hall ?_ he
  exact thn h fun vs s1 h1 => thn h1 fun ks s2 h2 => ⟨trivial, h2⟩
theorem pi_enum1 {X : Cx} {K : PySem.W.Frag} (hK : X.K = K) {e e1 : Expr} {ta : TA} {p pos tpos kpos : Pos} {elts : List Expr} {kk : Nat} (hg : Gl X "enumerate") (hm : X.mg "enumerate" = none) (ha : PA X [e] ta) (h1 : PE X e1 (tC (.int 1))) (hs : starEach [e] X.env = [(false, eval e X.env)] := by rfl)
    (hall : ((backToKw pos (keywordEach [⟨some ("start" : Str), e1, kpos⟩] X.env)).all (·.1.isSome)) = true := by rfl) (hks : (backToKw pos (keywordEach [⟨some ("start" : Str), e1, kpos⟩] X.env)).filterMap (·.1) = [("start" : Str)] := by rfl)
    (hn : ((backTo pos (starEach [e] X.env)).any (·.1) || (backToKw pos (keywordEach [⟨some ("start" : Str), e1, kpos⟩] X.env)).any (·.1.isNone)) = false := by rfl) :
    PI X (.Tuple elts kk tpos) (.Call (.Name "enumerate" p) [e] [⟨some ("start" : Str), e1, kpos⟩] pos) (iEnum1 K ta) := by
  subst hK
  refine ⟨fun ps s σ H R I h => ?_⟩
  refine wpAny_Call_Name_kw (ld_blt I hg hm boot_enumerate (callWith_typeK hall (thn (ha.run pos ps s σ H _ I h) fun us s1 ⟨vs, H1, I1, r1, q1⟩ => ?_) hn hs))
  refine thn ((pk_cons (kpos := kpos) (nm := some ("start" : Str)) h1 pk_nil).run pos ps s1 σ H1 _ I1 (show tCons (tC (.int 1)) tNil σ H1 (fun zs H2 => zs = [.int 1] ∧ H2 = H1) from ⟨rfl, rfl⟩)) fun ws s2 ⟨zs, H2, I2, r2, ez, eH⟩ => ?_
  subst ez
  subst eH
  rw [hks]
  obtain ⟨a, xs, evs, hq, q⟩ := q1
  subst evs
  cases r1 with
  | cons r rr =>
    cases rr
    cases r
    cases r2 with
    | cons r rr =>
      cases rr
      obtain ⟨t, rfl⟩ := r
      obtain ⟨its, rv, p', hz⟩ := I2.list hq
      have la : a < s2.heap.objs.size := by
        obtain ⟨o, n, e, _⟩ := p'
        exact Heap.lt_size e
      refine enum_begins_start (begins_list a its.toArray) p'.isList (by decide) (by decide) fun g he hit hsz hk => wpAny_pyIter_enum he ?_
      refine ⟨s2.heap.objs.size + 1, [s2.heap.objs.size + 1, s2.heap.objs.size], _, _, _, rfl, I2.kept (t' := s2.toks) hk, turn_enum1 a (s2.heap.objs.size + 1) s2.heap.objs.size, ⟨⟨.none, he⟩, ⟨_, hit, rfl, rfl⟩, Nat.succ_ne_self _, ?_, Nat.ne_of_lt la⟩, fun b hb => ?_, q⟩
      · exact Nat.ne_of_gt (Nat.lt_succ_of_lt la)
      · have lb : s2.heap.objs.size ≤ b := by
          rcases List.mem_cons.mp hb with zz | zz
          · rw [zz]; exact Nat.le_succ _
          · rw [List.mem_singleton.mp zz]; exact Nat.le_refl _
        exact I2.fpOk lb (I2.hok.fresh lb)
def dEnum1 (t : DA) : DI := fun ρ Q => t ρ fun zs => onOne zs fun x => onLst x fun xs => Q (enumD 1 xs)
theorem si_enum1 {f : Fx} {K : PySem.W.Frag} {ta : TA} {t : DA} (h : SA f ta t) : SI f (iEnum1 K ta) (dEnum1 t) := fun L σ H ρ Q R r q k =>
  h L σ H ρ _ _ r q fun vs H1 zs g d q => by
    have r1 := r.mv g
    replace q := inv_one q
    obtain ⟨x, rfl, q⟩ := q
    replace q := inv_lst q
    obtain ⟨xs, rfl, q⟩ := q
    cases d with
    | cons a b =>
      cases b
      cases a with
      | @lst a vs xs fa e d =>
        have at_ : ∀ {L' H'}, Tr f L H1 L' H' → H' a = some (.lst vs) := fun t => t.kp a _ e (r.ok.off a fa.1) fa.2
        have hl := d.length
        refine ⟨_, _, rfl, SqL.of e, k _ H1 _ g ⟨fun L' H' t _ => ⟨vs, SqL.of (at_ t), by rw [enum_len]; omega⟩, fun i L' H' hi t _ => ?_, fun i z L' H' v H'' hx t r' y => ?_⟩ q⟩
        · rw [enum_len] at hi
          exact ⟨vs, vs[i]'(by omega), SqL.of (at_ t), List.getElem?_eq_getElem _⟩
        · obtain ⟨T, x1, rfl, nT, rfl, f1⟩ := y
          obtain ⟨x, hx1, rfl⟩ := enum_get hx
          obtain ⟨u, hu, du⟩ := dds_get d hx1
          have e1 := f1 vs (SqL.of (at_ t))
          rw [hu] at e1
          cases e1
          have g := r'.new (o := .tup [.int (1 + (i : Nat)), x1]) nT
          have ez : ((1 + i : Nat) : Int) = 1 + (i : Int) := by omega
          rw [ez]
          exact ⟨g, .tup upd_same (.cons (.int _) (.cons (r'.dd g (t.dd r1 du)) .nil))⟩
end Ey
/-! ### dict of a list of pairs, and its items -/
namespace Ey
open PySem PySem.Spec PyProof.Rows L2
abbrev rDictP (K : PySem.W.Frag) : List V → Hp → VK → Prop := fun xs H Q => ∃ (a : Addr) (ps : List Addr) (kvs : List (Ky × V)), xs = [.ref a] ∧ SqL K H a (ps.map V.ref) ∧ Paired (fun p kv => SqT K H p [kV kv.1, kv.2]) ps kvs ∧ ∀ p, H p = none → Q (.ref p) (upd H p (.dK (mergeK [] kvs)))
theorem qc_dictP {X : Cx} {K : PySem.W.Frag} (hK : X.K = K) (hc : X.calm = true) : CallR X (.type "dict") (rDictP K) := by
  subst hK
  exact call_dictP hc
def dDictP : RNd := fun xs Q => ∃ ks : KD, xs = [.list (ks.map fun kd => .tuple [kD kd.1, kd.2])] ∧ (ks.map (·.1)).Nodup ∧ Q (.dict (ks.map fun kd => (kD kd.1, kd.2)))
theorem dd_kD {F : Addr → Prop} {H : Hp} {v : V} {k : Ky} (d : Dd F H v (kD k)) : v = kV k := by
  cases k with
  | inl i => cases d; rfl
  | inr x => cases d; rfl
theorem dds_pairs {F : Addr → Prop} {H : Hp} {K : PySem.W.Frag} : ∀ {vs : List V} {ks : KD}, DdAll F H vs (ks.map fun kd => .tuple [kD kd.1, kd.2]) → ∃ (ps : List Addr) (kvs : List (Ky × V)), vs = ps.map V.ref ∧ Paired (fun p kv => SqT K H p [kV kv.1, kv.2]) ps kvs ∧ kvs.map (·.1) = ks.map (·.1) ∧ DdAll F H (kvs.map (·.2)) (ks.map (·.2))
  | _, [], h => by
    cases h
    exact ⟨[], [], rfl, .nil, rfl, .nil⟩
  | _, (k, x) :: ks, h => by
    cases h with
    | cons a b =>
      obtain ⟨ps, kvs, rfl, hp, e, d⟩ := dds_pairs b
      cases a with
      | @tup p xs _ ep dp =>
        cases dp with
        | cons d1 r =>
          cases r with
          | cons d2 r =>
            cases r
            rw [dd_kD d1] at ep
            exact ⟨p :: ps, (k, _) :: kvs, rfl, .cons (SqT.of ep) hp, by rw [List.map_cons, List.map_cons, e], .cons d2 d⟩
theorem sn_dictP {f : Fx} {K : PySem.W.Frag} : SN f (rDictP K) dDictP := fun L σ H ρ vs xs Q R r d q k => by
  obtain ⟨ks, rfl, nd, q⟩ := q
  cases d with
  | cons a b =>
    cases b
    cases a with
    | lst g e c =>
      obtain ⟨ps, kvs, rfl, hp, ek, dk⟩ := dds_pairs (K := K) c
      refine ⟨_, ps, kvs, rfl, SqL.of e, hp, fun p np => ?_⟩
      rw [merge_new (acc := []) (by rw [List.nil_append, ek]; exact nd), List.nil_append]
      refine k _ _ _ (r.new np) ?_ q
      rw [← zip_fst ek]
      exact .dic (r.opn np) upd_same (r.dds (r.new np) dk)
theorem qg_unl {X : Cx} {K : PySem.W.Frag} (hK : X.K = K) {es : List Expr} {k : Nat} {t : TGs} {n : Nat} {pos : Pos} (hc : X.calm = true) (h : PGs X es t) (hn : (assignEach es X.env).length = n := by rfl) (hst : (assignEach es X.env).findIdx? (·.1) = none := by rfl) : PG X (.Tuple es k pos) (gUnl K n t) := by
  subst hK
  exact pg_unl hc h hn hst
def dGUnl (n : Nat) (t : DGs) : DG := fun x ρ Q => onLst x fun xs => xs.length = n ∧ t xs ρ Q
theorem sg_unl {f : Fx} {K : PySem.W.Frag} {n : Nat} {gs : TGs} {ds : DGs} {is : List Nat} (h : SGs f is gs ds) : SG f is (gUnl K n gs) (dGUnl n ds) := fun L σ H ρ v x Q R r d q k => by
  replace q := inv_lst q
  obtain ⟨xs, rfl, hl, q⟩ := q
  cases d with
  | lst fa e c => exact ⟨_, _, rfl, SqL.of e, by rw [c.length]; exact hl, h L σ H ρ _ _ _ _ r c q k⟩
theorem hu1 {a : Nat} (h : a + 64 < cLine) : a + 1 < cLine := by omega
/-! its items -/
def findK (ks : KD) (k : Ky) : Option PyData := (ks.find? fun kd => decide (kd.1 = k)).map (·.2)
theorem findK_get {F : Addr → Prop} {H : Hp} {k : Ky} {x : PyData} : ∀ {kvs : List (Ky × V)} {ks : KD}, kvs.map (·.1) = ks.map (·.1) → DdAll F H (kvs.map (·.2)) (ks.map (·.2)) → findK ks k = some x → ∃ v, valV kvs k = some v ∧ Dd F H v x
  | [], [], _, _, h => by simp [findK] at h
  | [], _ :: _, e, _, _ => by simp at e
  | _ :: _, [], e, _, _ => by simp at e
  | (a, v) :: kvs, (b, y) :: ks, e, d, h => by
    rw [List.map_cons, List.map_cons] at e
    injection e with e1 e2
    dsimp only at e1
    subst e1
    rw [List.map_cons, List.map_cons] at d
    cases d with
    | cons d1 d2 =>
      by_cases z : a = k
      · subst z
        have h' : y = x := by simpa [findK] using h
        subst h'
        exact ⟨v, valV_pos rfl, d1⟩
      · have h' : findK ks k = some x := by simpa [findK, List.find?_cons, z] using h
        obtain ⟨u, hu, du⟩ := findK_get e2 d2 h'
        exact ⟨u, (valV_neg z).trans hu, du⟩
theorem kD_inj {a b : Ky} (h : kD a = kD b) : a = b := by
  cases a <;> cases b <;> simp_all [kD]
theorem zip_inv : ∀ {kvs : List (Ky × V)} {ds : List PyData} {ks : KD}, kvs.length = ds.length → (kvs.map fun kv => kD kv.1).zip ds = ks.map (fun kd => (kD kd.1, kd.2)) → kvs.map (·.1) = ks.map (·.1) ∧ ds = ks.map (·.2)
  | [], [], [], _, _ => ⟨rfl, rfl⟩
  | [], [], _ :: _, _, h => by simp at h
  | [], _ :: _, _, hl, _ => by simp at hl
  | _ :: _, [], _, hl, _ => by simp at hl
  | _ :: _, _ :: _, [], _, h => by simp at h
  | (a, v) :: kvs, d :: ds, (b, y) :: ks, hl, h => by
    simp only [List.map_cons, List.zip_cons_cons, List.cons.injEq, Prod.mk.injEq] at h
    obtain ⟨⟨h1, h2⟩, h3⟩ := h
    obtain ⟨e1, e2⟩ := zip_inv (by simpa using hl) h3
    exact ⟨by rw [List.map_cons, List.map_cons, e1, kD_inj h1], by rw [List.map_cons, ← e2, h2]⟩
def dGet (t u : DE) : DE := fun ρ Q => t ρ fun x => u ρ fun y => ∃ (ks : KD) (k : Ky), x = .dict (ks.map fun kd => (kD kd.1, kd.2)) ∧ y = kD k ∧ onSome (findK ks k) Q
theorem se_get {f : Fx} {ta tb : TE} {da db : DE} (h1 : SE f ta da) (h2 : SE f tb db) : SE f (tDGet ta tb) (dGet da db) := fun L σ H ρ Q R r q k =>
  h1 L σ H ρ _ _ r q fun v H1 x g dx q => h2 L σ H1 ρ _ _ (r.mv g) q fun u H2 y g2 dy q => by
    obtain ⟨ks, ky, rfl, rfl, q⟩ := q
    replace q := inv_some q
    obtain ⟨z, ez, q⟩ := q
    have dx2 := (r.mv g).dd g2 dx
    have eu := dd_kD dy
    subst eu
    generalize hx : PyData.dict (ks.map fun kd => (kD kd.1, kd.2)) = X at dx2
    cases dx2 with
    | @dic a kvs ds fa e dd =>
      injection hx with hx
      have hl := dd.length
      rw [List.length_map] at hl
      obtain ⟨e1, e2⟩ := zip_inv hl hx.symm
      subst e2
      obtain ⟨w, hw, dw⟩ := findK_get e1 dd ez
      exact ⟨_, w, rfl, .inl ⟨kvs, ky, .inl e, rfl, hw.symm⟩, k _ _ _ (g.trans g2) dw q⟩
    | _ => cases hx
end Ey
/-! ### texts of drawn plans -/
namespace Ey
open PySem PySem.Spec PyProof.Rows L2
def jl (s : List Nat) : List (List Nat) → List Nat
  | [] => []
  | [x] => x
  | x :: y :: r => x ++ (s ++ jl s (y :: r))
theorem glue_fold (s : Array Nat) : ∀ (ps : List Str) (acc : Array Nat), (ps.foldl (fun acc p => acc ++ s ++ p.cps) acc).toList = acc.toList ++ (ps.map fun p => s.toList ++ p.cps.toList).flatten
  | [], acc => by simp
  | p :: ps, acc => by
    rw [List.foldl_cons, glue_fold s ps]
    simp
theorem jl_flat (s : List Nat) : ∀ (x : List Nat) (r : List (List Nat)), jl s (x :: r) = x ++ (r.map fun p => s ++ p).flatten
  | x, [] => by simp [jl]
  | x, y :: r => by
    unfold jl
    rw [jl_flat s y r]
    simp
theorem join_cps (s : Str) (ys : List Str) : (Txt.join s ys).cps.toList = jl s.cps.toList (ys.map (·.cps.toList)) := by
  show (Builtin.Str.glued s ys).cps.toList = _
  rw [Builtin.Str.glued.eq_1]
  cases ys with
  | nil => rfl
  | cons y r =>
    rw [List.map_cons, jl_flat]
    show (List.foldl (fun acc p => acc ++ s.cps ++ p.cps) y.cps r).toList = _
    rw [glue_fold, List.map_map]
    rfl
theorem free_cons {c : Nat} : ∀ {x y u v : List Nat}, c ∉ x → c ∉ y → x ++ c :: u = y ++ c :: v → x = y ∧ u = v
  | [], [], _, _, _, _, h => ⟨rfl, (List.cons.inj h).2⟩
  | [], b :: y, _, _, _, hy, h => by
    have := (List.cons.inj h).1
    subst this
    exact (hy List.mem_cons_self).elim
  | a :: x, [], _, _, hx, _, h => by
    have := (List.cons.inj h).1
    subst this
    exact (hx List.mem_cons_self).elim
  | a :: x, b :: y, _, _, hx, hy, h => by
    rw [List.cons_append, List.cons_append] at h
    obtain ⟨h1, h2⟩ := List.cons.inj h
    subst h1
    obtain ⟨e1, e2⟩ := free_cons (fun z => hx (List.mem_cons_of_mem _ z)) (fun z => hy (List.mem_cons_of_mem _ z)) h2
    exact ⟨by rw [e1], e2⟩
theorem jl_inj {c : Nat} : ∀ {xs ys : List (List Nat)}, xs ≠ [] → ys ≠ [] → (∀ x ∈ xs, c ∉ x) → (∀ y ∈ ys, c ∉ y) → jl [c] xs = jl [c] ys → xs = ys
  | [], _, h, _, _, _, _ => (h rfl).elim
  | _, [], _, h, _, _, _ => (h rfl).elim
  | [x], [y], _, _, _, _, h => by
    have h : x = y := h
    rw [h]
  | [x], y :: z :: r, _, _, hx, _, h => by
    have h : x = y ++ c :: jl [c] (z :: r) := h
    exact (hx x List.mem_cons_self (by rw [h]; simp)).elim
  | x :: z :: r, [y], _, _, _, hy, h => by
    have h : x ++ c :: jl [c] (z :: r) = y := h
    exact (hy y List.mem_cons_self (by rw [← h]; simp)).elim
  | x :: a :: r, y :: b :: t, _, _, hx, hy, h => by
    have h : x ++ c :: jl [c] (a :: r) = y ++ c :: jl [c] (b :: t) := h
    obtain ⟨e1, e2⟩ := free_cons (hx x List.mem_cons_self) (hy y List.mem_cons_self) h
    have e3 := jl_inj (by simp) (by simp) (fun z hz => hx z (List.mem_cons_of_mem _ hz)) (fun z hz => hy z (List.mem_cons_of_mem _ hz)) e2
    rw [e1, e3]
theorem split_ne (x y : Str) : Txt.split x y ≠ [] := by
  unfold Txt.split
  split
  · simp
  · split
    · simp
    · intro h
      have := len_partsBetween x (Builtin.Str.occurrences x y 0 x.length (x.length + 1)) y.length
      rw [h] at this
      simp at this
theorem str_ext {a b : Str} (h : a.cps.toList = b.cps.toList) : a = b := by
  cases a with | mk a =>
  cases b with | mk b =>
  have : a = b := Array.toList_inj.mp h
  rw [this]
theorem map_cps {xs ys : List Str} (h : xs.map (·.cps.toList) = ys.map (·.cps.toList)) : xs = ys := by
  induction xs generalizing ys with
  | nil => cases ys with
    | nil => rfl
    | cons y ys => simp at h
  | cons x xs ih => cases ys with
    | nil => simp at h
    | cons y ys =>
      rw [List.map_cons, List.map_cons] at h
      obtain ⟨h1, h2⟩ := List.cons.inj h
      rw [str_ext h1, ih h2]
theorem split_join {c : Nat} {ys : List Str} (hn : ys ≠ []) (hf : ∀ y ∈ ys, c ∉ y.cps.toList) : Txt.split (Txt.join ⟨#[c]⟩ ys) ⟨#[c]⟩ = ys := by
  refine map_cps (jl_inj (c := c) (by simpa using split_ne _ _) (by simpa using hn) (fun x hx => ?_) (fun x hx => ?_) ?_)
  · obtain ⟨p, hp, rfl⟩ := List.mem_map.mp hx
    exact StrLaws.split_free _ c p hp
  · obtain ⟨p, hp, rfl⟩ := List.mem_map.mp hx
    exact hf p hp
  · have e1 := join_cps ⟨#[c]⟩ (Txt.split (Txt.join ⟨#[c]⟩ ys) ⟨#[c]⟩)
    have e2 := join_cps ⟨#[c]⟩ ys
    rw [show Txt.join ⟨#[c]⟩ (Txt.split (Txt.join ⟨#[c]⟩ ys) ⟨#[c]⟩) = Txt.join ⟨#[c]⟩ ys from (StrLaws.glued_eq_join _ _).trans (StrLaws.join_split _ _)] at e1
    exact e1.symm.trans e2
/-! numerals -/
def numS (i : Int) : Str := (toString i : String)
def digOf (i : Int) : Str := Txt.removeprefix (numS i) ("-" : Str)
def numok (i : Int) : Bool :=
  decide ((numS i).length ≤ 10) && (decide ((digOf i).length ≤ 10) && (((numS i).cps.toList.all fun c => decide (c ≠ 32) && (decide (c ≠ 10) && decide (c < 1000))) && (((digOf i).cps.toList.all fun c => decide (c ∈ digitsS.cps.toList)) &&
    ((match (digOf i).cps.toList with
      | [] => false
      | c :: _ => decide (c ≠ 48) || decide ((numS i).cps.toList = [48])) && decide (intText? (numS i) = some i)))))
theorem numok_fin : ∀ k : Fin 121, numok (((k.val : Nat) : Int) - 60) = true := by decide +kernel
theorem numok_all {i : Int} (h : i.natAbs ≤ 60) : numok i = true := by
  have z := numok_fin ⟨(i + 60).toNat, by omega⟩
  have e : ((((i + 60).toNat : Nat) : Int) - 60) = i := by omega
  rw [e] at z
  exact z
structure NumOk (i : Int) : Prop where
  len : (numS i).length ≤ 10
  dlen : (digOf i).length ≤ 10
  fr : ∀ c ∈ (numS i).cps.toList, c ≠ 32 ∧ c ≠ 10 ∧ c < 1000
  dig : ∀ c ∈ (digOf i).cps.toList, c ∈ digitsS.cps.toList
  hd : ∃ c r, (digOf i).cps.toList = c :: r ∧ (c ≠ 48 ∨ (numS i).cps.toList = [48])
  val : intText? (numS i) = some i
theorem num_ok {i : Int} (h : i.natAbs ≤ 60) : NumOk i := by
  have z := numok_all h
  unfold numok at z
  simp only [Bool.and_eq_true, decide_eq_true_eq, List.all_eq_true] at z
  obtain ⟨h1, h2, h3, h4, h5, h6⟩ := z
  refine ⟨h1, h2, h3, h4, ?_, h6⟩
  split at h5
  · cases h5
  · rename_i c r e
    refine ⟨c, r, e, ?_⟩
    simpa using h5
/-! lines -/
def wordsS (w : Wl) : List Str := [("wall" : Str), w.n, numS w.a, numS w.b, numS w.c, numS w.d]
def lineS (w : Wl) : Str := Txt.join (" " : Str) (wordsS w)
def textS (wl : List Wl) : Str := Txt.join ("\n" : Str) (wl.map lineS)
theorem sp_is : (" " : Str) = ⟨#[32]⟩ := by decide +kernel
theorem nl_is : ("\n" : Str) = ⟨#[10]⟩ := by decide +kernel
theorem signs_free : ∀ c ∈ signsS.cps.toList, c ≠ 32 ∧ c ≠ 10 ∧ c < 1000 := by decide +kernel
theorem name_signs {n : Str} (h : nameB (.str n) = true) : n.length ≤ 8 ∧ ∀ c ∈ n.cps.toList, c ≠ 32 ∧ c ≠ 10 ∧ c < 1000 := by
  have e : nameB (.str n) = (decide (1 ≤ n.length) && decide (n.length ≤ 8) && headIn n.cps.toList && n.cps.toList.all fun c => decide (c ∈ signsS.cps.toList)) := rfl
  rw [e] at h
  simp only [Bool.and_eq_true, decide_eq_true_eq, List.all_eq_true] at h
  exact ⟨h.1.1.2, fun c hc => signs_free c (h.2 c hc)⟩
theorem wall_free : ∀ c ∈ ("wall" : Str).cps.toList, c ≠ 32 ∧ c ≠ 10 ∧ c < 1000 := by decide +kernel
theorem words_free {w : Wl} (h : w.Real) : ∀ y ∈ wordsS w, ∀ c ∈ y.cps.toList, c ≠ 32 ∧ c ≠ 10 ∧ c < 1000 := fun y hy => by
  have a := (num_ok h.a).fr
  have b := (num_ok h.b).fr
  have c := (num_ok h.c).fr
  have d := (num_ok h.d).fr
  have n := (name_signs h.ok).2
  simp only [wordsS, List.mem_cons, List.not_mem_nil, or_false] at hy
  rcases hy with rfl | rfl | rfl | rfl | rfl | rfl
  · exact wall_free
  · exact n
  · exact a
  · exact b
  · exact c
  · exact d
theorem line_split {w : Wl} (h : w.Real) : Txt.split (lineS w) (" " : Str) = wordsS w := by
  unfold lineS
  rw [sp_is]
  exact split_join (by simp [wordsS]) fun y hy hc => (words_free h y hy 32 hc).1 rfl
theorem jl_mem {s : List Nat} {c : Nat} : ∀ {ys : List (List Nat)}, c ∈ jl s ys → c ∈ s ∨ ∃ y ∈ ys, c ∈ y
  | [], h => by simp [jl] at h
  | [x], h => .inr ⟨x, List.mem_cons_self, h⟩
  | x :: y :: r, h => by
    unfold jl at h
    rcases List.mem_append.mp h with h | h
    · exact .inr ⟨x, List.mem_cons_self, h⟩
    · rcases List.mem_append.mp h with h | h
      · exact .inl h
      · rcases jl_mem h with h | ⟨z, hz, h⟩
        · exact .inl h
        · exact .inr ⟨z, List.mem_cons_of_mem _ hz, h⟩
theorem line_free {w : Wl} (h : w.Real) : 10 ∉ (lineS w).cps.toList := fun z => by
  unfold lineS at z
  rw [join_cps, sp_is] at z
  rcases jl_mem z with z | ⟨y, hy, z⟩
  · revert z
    decide
  · obtain ⟨p, hp, rfl⟩ := List.mem_map.mp hy
    exact (words_free h p hp 10 z).2.1 rfl
theorem text_split {wl : List Wl} (h : ∀ w ∈ wl, w.Real) (hn : wl ≠ []) : Txt.split (textS wl) ("\n" : Str) = wl.map lineS := by
  unfold textS
  rw [nl_is]
  exact split_join (by simpa using hn) fun y hy => by
    obtain ⟨w, hw, rfl⟩ := List.mem_map.mp hy
    exact line_free (h w hw)
/-! lengths -/
theorem jl_len {s : List Nat} {m : Nat} (hs : s.length = 1) : ∀ {ys : List (List Nat)}, (∀ y ∈ ys, y.length ≤ m) → (jl s ys).length ≤ (m + 1) * ys.length
  | [], _ => by simp [jl]
  | [x], h => by
    have := h x List.mem_cons_self
    simp [jl]
    omega
  | x :: y :: r, h => by
    have h1 := h x List.mem_cons_self
    have h2 := jl_len hs (ys := y :: r) fun z hz => h z (List.mem_cons_of_mem _ hz)
    unfold jl
    rw [List.length_append, List.length_append, List.length_cons, hs, Nat.mul_add]
    omega
theorem words_len {w : Wl} (h : w.Real) : ∀ y ∈ wordsS w, y.length ≤ 10 := fun y hy => by
  have a := (num_ok h.a).len
  have b := (num_ok h.b).len
  have c := (num_ok h.c).len
  have d := (num_ok h.d).len
  have n := (name_signs h.ok).1
  simp only [wordsS, List.mem_cons, List.not_mem_nil, or_false] at hy
  rcases hy with rfl | rfl | rfl | rfl | rfl | rfl
  · decide +kernel
  · omega
  · exact a
  · exact b
  · exact c
  · exact d
theorem line_len {w : Wl} (h : w.Real) : (lineS w).length ≤ 66 := by
  have e := join_cps (" " : Str) (wordsS w)
  have z := jl_len (s := (" " : Str).cps.toList) (m := 10) (by decide +kernel) (ys := (wordsS w).map (·.cps.toList)) fun y hy => by
    obtain ⟨p, hp, rfl⟩ := List.mem_map.mp hy
    have := words_len h p hp
    rw [Array.length_toList]
    exact this
  rw [← e, Array.length_toList, List.length_map] at z
  exact z
theorem text_len {wl : List Wl} (h : ∀ w ∈ wl, w.Real) : (textS wl).length ≤ 67 * wl.length := by
  have e := join_cps ("\n" : Str) (wl.map lineS)
  have z := jl_len (s := ("\n" : Str).cps.toList) (m := 66) (by decide +kernel) (ys := (wl.map lineS).map (·.cps.toList)) fun y hy => by
    obtain ⟨p, hp, rfl⟩ := List.mem_map.mp hy
    obtain ⟨w, hw, rfl⟩ := List.mem_map.mp hp
    rw [Array.length_toList]
    exact line_len (h w hw)
  rw [← e, Array.length_toList, List.length_map, List.length_map] at z
  exact z
theorem text_ne {wl : List Wl} (h : ∀ w ∈ wl, w.Real) (hn : wl ≠ []) : textS wl ≠ ("" : Str) := fun z => by
  have e := text_split h hn
  rw [z] at e
  cases wl with
  | nil => exact hn rfl
  | cons w r =>
    have e2 : Txt.split ("" : Str) ("\n" : Str) = [("" : Str)] := by decide +kernel
    rw [e2] at e
    have e3 := (List.cons.inj e).1
    have e4 := line_split (h w List.mem_cons_self)
    rw [← e3] at e4
    have e5 : Txt.split ("" : Str) (" " : Str) = [("" : Str)] := by decide +kernel
    rw [e5] at e4
    simp [wordsS] at e4
/-! the law's line -/
theorem line_law (w : Wl) : ("wall " : Str) ++ Txt.join (" " : Str) [w.n, numS w.a, numS w.b, numS w.c, numS w.d] = lineS w := by
  refine str_ext ?_
  have e : ("wall " : Str).cps.toList = ("wall" : Str).cps.toList ++ (" " : Str).cps.toList := by decide +kernel
  have e0 : ∀ a b : Str, (a ++ b).cps.toList = a.cps.toList ++ b.cps.toList := fun a b => by
    show (a.cps ++ b.cps).toList = _
    rw [Array.toList_append]
  unfold lineS
  rw [e0, e, join_cps, join_cps, List.append_assoc]
  rfl
theorem line_told (w : Wl) : Str.empty ++ ("wall " : Str) ++ w.n ++ (" " : Str) ++ numS w.a ++ (" " : Str) ++ numS w.b ++ (" " : Str) ++ numS w.c ++ (" " : Str) ++ numS w.d = lineS w := by
  refine str_ext ?_
  have e : ("wall " : Str).cps.toList = ("wall" : Str).cps.toList ++ (" " : Str).cps.toList := by decide +kernel
  have e0 : ∀ a b : Str, (a ++ b).cps.toList = a.cps.toList ++ b.cps.toList := fun a b => by
    show (a.cps ++ b.cps).toList = _
    rw [Array.toList_append]
  have e1 : Str.empty.cps.toList = [] := by decide +kernel
  unfold lineS
  rw [join_cps]
  simp only [e0, e1, e, List.nil_append, List.append_assoc]
  rfl
end Ey
namespace Ey
open PySem PySem.Spec PyProof.Rows L2
def Okc (z : Str) : Prop := ∀ c ∈ z.cps.toList, c < 1000
theorem shs {z : Str} (h : Okc z) : SeqAt.shaped (.str z) = true := by
  have : PyData.strOk z = true := by
    show (z.cps.all fun x => decide (x < 1114112)) = true
    rw [← Array.all_toList, List.all_eq_true]
    intro c hc
    exact decide_eq_true (Nat.lt_trans (h c hc) (by decide))
  unfold SeqAt.shaped
  simp [PyData.canLay0, PyData.depth, this]
theorem okc_num {i : Int} (h : i.natAbs ≤ 60) : Okc (numS i) := fun c hc => ((num_ok h).fr c hc).2.2
theorem okc_dig {i : Int} (h : i.natAbs ≤ 60) : Okc (digOf i) := fun c hc => (show ∀ c ∈ digitsS.cps.toList, c < 1000 by decide +kernel) c ((num_ok h).dig c hc)
theorem okc_lit {z : Str} (h : (z.cps.toList.all fun c => decide (c < 1000)) = true) : Okc z := fun c hc => of_decide_eq_true (List.all_eq_true.mp h c hc)
theorem okc_words {w : Wl} (h : w.Real) : ∀ y ∈ wordsS w, Okc y := fun y hy c hc => (words_free h y hy c hc).2.2
theorem okc_line {w : Wl} (h : w.Real) : Okc (lineS w) := fun c z => by
  unfold lineS at z
  rw [join_cps] at z
  rcases jl_mem z with z | ⟨y, hy, z⟩
  · exact okc_lit (z := (" " : Str)) (by decide +kernel) c z
  · obtain ⟨p, hp, rfl⟩ := List.mem_map.mp hy
    exact okc_words h p hp c z
theorem okc_text {wl : List Wl} (h : ∀ w ∈ wl, w.Real) : Okc (textS wl) := fun c z => by
  unfold textS at z
  rw [join_cps] at z
  rcases jl_mem z with z | ⟨y, hy, z⟩
  · exact okc_lit (z := ("\n" : Str)) (by decide +kernel) c z
  · obtain ⟨p, hp, rfl⟩ := List.mem_map.mp hy
    obtain ⟨w, hw, rfl⟩ := List.mem_map.mp hp
    exact okc_line (h w hw) c z
theorem eqs (a b : Str) : PyData.eqv (.str a) (.str b) = decide (a = b) := by
  simp [PyData.eqv, Bool.beq_eq_decide_eq]
theorem strs_len (z : Str) : (z.cps.toList.map fun c => PyData.str ⟨#[c]⟩).length = z.length := by rw [List.length_map, Array.length_toList]; rfl
theorem real_seg {w : Wl} (h : w.Real) : segB w.D = true := by
  show (nameB (.str w.n) && (true && (true && !PyData.eqv (prD w.a w.b) (prD w.c w.d)))) = true
  rw [h.ok, eqv2]
  have : ¬ [w.a, w.b] = [w.c, w.d] := fun z => by
    have e1 := (List.cons.inj z).1
    have e2 := (List.cons.inj (List.cons.inj z).2).1
    rcases h.ne with n | n
    · exact n e1
    · exact n e2
  rw [decide_eq_false this]
  rfl
theorem real_fit {w : Wl} (h : w.Real) : Fit w.D := (near_sz h.toNear).mono (by decide) (by decide)
theorem real_ok {w : Wl} (h : w.Real) : Wl.Ok w := ⟨sm60 h.a h.b, sm60 h.c h.d, h.ne⟩
def intOf : PyData → PyData := fun x => byDD x
where byDD : PyData → PyData
  | .str z => ((intText? z).map PyData.int).getD .none
  | _ => .none
theorem intOf_num {i : Int} (h : i.natAbs ≤ 60) : intOf (.str (numS i)) = .int i := by
  show ((intText? (numS i)).map PyData.int).getD .none = _
  rw [(num_ok h).val]
  rfl
end Ey
namespace Ey
open PySem PySem.Spec PyProof.Rows L2
theorem onb_f {b : Bool} {p q : Prop} (h : b = false) (k : q) : onBool (.bool b) fun c => iteB c p q := by
  subst h
  exact k
end Ey
namespace Ey
open PySem PySem.Spec PyProof.Rows L2
theorem text_sum {wl : List Wl} (h : ∀ w ∈ wl, w.Real) (hl : wl.length ≤ 9) : ((wl.map lineS).map (·.length)).sum + (wl.map lineS).length * ("\n" : Str).length ≤ 1000000 := by
  have this : ∀ vl : List Wl, (∀ v ∈ vl, v.Real) → ((vl.map lineS).map (·.length)).sum ≤ 66 * vl.length := by
    intro vl
    induction vl with
    | nil => intro _; exact Nat.le_refl _
    | cons v vl ih =>
      intro h
      have h1 := ih fun x hx => h x (List.mem_cons_of_mem _ hx)
      have h2 := line_len (h v List.mem_cons_self)
      rw [List.map_cons, List.map_cons, List.sum_cons, List.length_cons]
      omega
  have z := this wl h
  have z2 : ("\n" : Str).length = 1 := by decide +kernel
  rw [z2, List.length_map]
  omega
end Ey
/-! ### plans in another sequence, with ends exchanged -/
namespace Ey
open PySem PySem.Spec PyProof.Rows L2
def Wl.rev (w : Wl) : Wl := ⟨w.n, w.c, w.d, w.a, w.b⟩
def Wl.as (w : Wl) (n : Str) : Wl := ⟨n, w.a, w.b, w.c, w.d⟩
theorem Wl.Real.rev {w : Wl} (h : w.Real) : w.rev.Real := ⟨⟨h.nm, h.c, h.d, h.a, h.b⟩, h.ok, h.ne.imp Ne.symm Ne.symm⟩
theorem Wl.Real.as {w v : Wl} (h : w.Real) (g : v.Real) : (w.as v.n).Real := ⟨⟨g.nm, h.a, h.b, h.c, h.d⟩, g.ok, h.ne⟩
theorem off_symm {v w : Wl} (hv : v.Real) (hw : w.Real) (h : clashOff v w) : clashOff w v := (clash_swap hv.ne hw.ne).trans h
theorem off_revL {v w : Wl} (hv : v.Real) (hw : w.Real) (h : clashOff v w) : clashOff v.rev w := (clash_turn1 hv.ne hw.ne).trans h
theorem off_revR {v w : Wl} (hv : v.Real) (hw : w.Real) (h : clashOff v w) : clashOff v w.rev := (clash_turn2 hv.ne).trans h
theorem off_all {wl : List Wl} (h : Pln wl) {v w : Wl} (hv : v ∈ wl) (hw : w ∈ wl) (ne : v.n ≠ w.n) : clashOff v w := by
  obtain ⟨i, hi, rfl⟩ := List.getElem_of_mem hv
  obtain ⟨j, hj, rfl⟩ := List.getElem_of_mem hw
  rcases Nat.lt_trichotomy i j with z | z | z
  · exact List.pairwise_iff_getElem.mp h.off i j hi hj z
  · subst z
    exact (ne rfl).elim
  · exact off_symm (h.real _ (List.getElem_mem hj)) (h.real _ (List.getElem_mem hi)) (List.pairwise_iff_getElem.mp h.off j i hj hi z)
/-- v is w, or w the other way round -/
def From (w v : Wl) : Prop := v = w ∨ v = w.rev
theorem From.n {w v : Wl} (h : From w v) : v.n = w.n := by
  rcases h with rfl | rfl <;> rfl
theorem From.real {w v : Wl} (h : From w v) (r : w.Real) : v.Real := by
  rcases h with rfl | rfl
  · exact r
  · exact r.rev
theorem From.off {w v u t : Wl} (h : From w v) (g : From u t) (r : w.Real) (s : u.Real) (o : clashOff w u) : clashOff v t := by
  rcases h with rfl | rfl
  · rcases g with rfl | rfl
    · exact o
    · exact off_revR r s o
  · rcases g with rfl | rfl
    · exact off_revL r s o
    · exact off_revL r s.rev (off_revR r s o)
/-- one by one -/
inductive RL {α β : Type} (R : α → β → Prop) : List α → List β → Prop
  | nil : RL R [] []
  | cons {x : α} {y : β} {xs : List α} {ys : List β} : R x y → RL R xs ys → RL R (x :: xs) (y :: ys)
theorem comp_rel {dg : DG} {de : DE} {ρ : Env} (R : PyData → PyData → Prop) {Q : List PyData → Prop} : ∀ (xs acc : List PyData), (∀ x ∈ xs, ∀ k : PyData → Prop, (∀ y, R x y → k y) → dg x ρ fun ρ1 => de ρ1 k) → (∀ ys : List PyData, RL R xs ys → Q (acc ++ ys)) → dComp dg dTYes de ρ xs acc Q
  | [], acc, _, q => by
    have := q [] .nil
    rwa [List.append_nil] at this
  | x :: xs, acc, h, q => by
    refine h x List.mem_cons_self _ fun y hy => ?_
    refine comp_rel R xs _ (fun z hz => h z (List.mem_cons_of_mem _ hz)) fun ys hl => ?_
    rw [List.append_assoc]
    exact q (y :: ys) (.cons hy hl)
theorem far_of {wl : List Wl} : ∀ {ns : List Str} {ys : List PyData}, RL (fun (x y : PyData) => ∃ v w : Wl, w ∈ wl ∧ x = PyData.str w.n ∧ From w v ∧ y = v.D) (ns.map PyData.str) ys → ∃ vs : List Wl, ys = vs.map Wl.D ∧ vs.map (·.n) = ns ∧ ∀ v ∈ vs, ∃ w ∈ wl, From w v
  | [], _, h => by
    cases h
    exact ⟨[], rfl, rfl, fun v hv => by cases hv⟩
  | n :: ns, _, h => by
    cases h with
    | cons a b =>
      obtain ⟨v, w, hw, e, hf, rfl⟩ := a
      obtain ⟨vs, rfl, en, hv⟩ := far_of b
      injection e with e
      refine ⟨v :: vs, rfl, ?_, fun u hu => ?_⟩
      · rw [List.map_cons, en, hf.n, e]
      · rcases List.mem_cons.mp hu with rfl | hu
        · exact ⟨w, hw, hf⟩
        · exact hv u hu
theorem far_plan {wl vs : List Wl} {ns : List Str} (h : Pln wl) (hn : ns.Perm (wl.map (·.n))) (e : vs.map (·.n) = ns) (hv : ∀ v ∈ vs, ∃ w ∈ wl, From w v) : Pln vs := by
  have nd : (vs.map (·.n)).Nodup := by
    rw [e]
    exact hn.nodup_iff.mpr h.nd
  refine ⟨⟨fun v hm => ?_, nd⟩, ?_⟩
  · obtain ⟨w, hw, hf⟩ := hv v hm
    exact hf.real (h.real w hw)
  · refine List.pairwise_iff_getElem.mpr fun i j hi hj hij => ?_
    obtain ⟨w, hw, hf⟩ := hv _ (List.getElem_mem hi)
    obtain ⟨u, hu, hg⟩ := hv _ (List.getElem_mem hj)
    have n1 := List.pairwise_iff_getElem.mp nd i j (by rw [List.length_map]; exact hi) (by rw [List.length_map]; exact hj) hij
    rw [List.getElem_map, List.getElem_map, hf.n, hg.n] at n1
    exact hf.off hg (h.real w hw) (h.real u hu) (off_all h hw hu n1)
/-! names exchanged -/
def renamed (vs wl : List Wl) : List Wl := List.zipWith (fun v w => Wl.as v w.n) vs wl
theorem ren_plan {wl vs : List Wl} (h : Pln wl) (g : Pln vs) (hl : vs.length = wl.length) : Pln (renamed vs wl) := by
  have len : (renamed vs wl).length = wl.length := by
    unfold renamed
    rw [List.length_zipWith, hl, Nat.min_self]
  have at_ : ∀ i (hi : i < (renamed vs wl).length), (renamed vs wl)[i] = Wl.as (vs[i]'(by omega)) (wl[i]'(by omega)).n := fun i hi => by
    exact List.getElem_zipWith (f := fun v w : Wl => Wl.as v w.n) (l := vs) (l' := wl)
  refine ⟨⟨fun v hv => ?_, ?_⟩, ?_⟩
  · obtain ⟨i, hi, rfl⟩ := List.getElem_of_mem hv
    rw [at_ i hi]
    exact (g.real _ (List.getElem_mem _)).as (h.real _ (List.getElem_mem _))
  · have e : (renamed vs wl).map (·.n) = wl.map (·.n) := by
      refine List.ext_getElem (by rw [List.length_map, List.length_map, len]) fun i h1 h2 => ?_
      rw [List.getElem_map, List.getElem_map, at_ i (by rw [List.length_map] at h1; exact h1)]
      rfl
    rw [e]
    exact h.nd
  · refine List.pairwise_iff_getElem.mpr fun i j hi hj hij => ?_
    rw [at_ i hi, at_ j hj]
    exact List.pairwise_iff_getElem.mp g.off i j (by omega) (by omega) hij
def renD (wl : List Wl) : PyData → PyData
  | .tuple [.int i, v] => ((wOf v).as ((wl[i.toNat]?.map (·.n)).getD Str.empty)).D
  | x => x
theorem ren_map {wl : List Wl} : ∀ {vs : List Wl} {k : Nat}, k + vs.length ≤ wl.length → (enumD k (vs.map Wl.D)).map (renD wl) = (renamed vs (wl.drop k)).map Wl.D
  | [], k, _ => rfl
  | v :: vs, k, h => by
    rw [List.length_cons] at h
    have hk : k < wl.length := by omega
    rw [List.drop_eq_getElem_cons hk]
    show renD wl (.tuple [.int (k : Nat), v.D]) :: (enumD (k + 1) (vs.map Wl.D)).map (renD wl) = (v.as wl[k].n).D :: (renamed vs (wl.drop (k + 1))).map Wl.D
    rw [ren_map (by omega)]
    congr 1
    show ((wOf v.D).as ((wl[((k : Nat) : Int).toNat]?.map (·.n)).getD Str.empty)).D = _
    rw [wOf_D, Int.toNat_natCast, List.getElem?_eq_getElem hk]
    rfl
/-! the plan's names and walls -/
def pairsOf (wl : List Wl) : KD := wl.map fun w => (Sum.inr w.n, w.D)
theorem pairs_nodup {wl : List Wl} (h : Pln wl) : ((pairsOf wl).map (·.1)).Nodup := by
  unfold pairsOf
  rw [List.map_map]
  have := List.Pairwise.map (S := fun a b : Ky => a ≠ b) (fun n : Str => (Sum.inr n : Ky)) (fun a b hab z => hab (Sum.inr.inj z)) h.nd
  rwa [List.map_map] at this
theorem pairs_find {w : Wl} : ∀ {wl : List Wl}, (wl.map (·.n)).Nodup → w ∈ wl → findK (pairsOf wl) (.inr w.n) = some w.D
  | [], _, h => by cases h
  | v :: wl, nd, h => by
    rw [List.map_cons, List.nodup_cons] at nd
    by_cases e : v.n = w.n
    · rcases List.mem_cons.mp h with rfl | h
      · simp [findK, pairsOf]
      · exact (nd.1 (by rw [e]; exact List.mem_map_of_mem h)).elim
    · rcases List.mem_cons.mp h with rfl | h
      · exact (e rfl).elim
      · have := pairs_find nd.2 h
        unfold findK pairsOf at this ⊢
        rw [List.map_cons, List.find?_cons_of_neg (by simp; exact fun z => e (by simpa using z))]
        exact this
theorem pln_nil : Pln [] := ⟨⟨fun w hw => absurd hw List.not_mem_nil, List.nodup_nil⟩, List.Pairwise.nil⟩
theorem rz_text {wl : List Wl} (h : ∀ w ∈ wl, w.Real) (hl : wl.length ≤ 9) : Sz 603 0 (.str (textS wl)) := sz_str (List.all_eq_true.mpr fun c hc => decide_eq_true (Nat.lt_trans (okc_text h c hc) (by decide))) (Nat.le_trans (text_len h) (by omega))
theorem shaped_plan {wl : List Wl} (h : ∀ w ∈ wl, w.Real) : SeqAt.shaped (.tuple (wl.map Wl.D)) = true := by
  have a : ∀ vl : List Wl, (∀ w ∈ vl, w.Real) → PyData.canLayAll0 (vl.map Wl.D) = true ∧ PyData.depthAll (vl.map Wl.D) ≤ 2 := by
    intro vl
    induction vl with
    | nil => intro _; exact ⟨by simp [PyData.canLayAll0], by simp [PyData.depthAll]⟩
    | cons v vl ih =>
      intro h
      obtain ⟨h1, h2⟩ := ih fun w hw => h w (List.mem_cons_of_mem _ hw)
      have rv := h v List.mem_cons_self
      have on : PyData.strOk v.n = true := by
        show (v.n.cps.all fun x => decide (x < 1114112)) = true
        rw [← Array.all_toList, List.all_eq_true]
        intro c hc
        exact decide_eq_true (Nat.lt_trans ((name_signs rv.ok).2 c hc).2.2 (by decide))
      rw [List.map_cons]
      refine ⟨?_, ?_⟩
      · simp [PyData.canLayAll0, h1, Wl.D, wallD, prD, PyData.canLay0, on]
      · have e : (Wl.D v).depth ≤ 2 := (near_sz rv.toNear).dp
        unfold PyData.depthAll
        exact Nat.max_le.mpr ⟨e, h2⟩
  obtain ⟨h1, h2⟩ := a wl h
  unfold SeqAt.shaped
  have e1 : (PyData.tuple (wl.map Wl.D)).canLay0 = true := by simpa only [PyData.canLay0] using h1
  have e2 : (PyData.tuple (wl.map Wl.D)).depth ≤ 64 := by
    simp only [PyData.depth]
    omega
  rw [e1, decide_eq_true e2]
  rfl
theorem eqv_tnil {xs : List PyData} : PyData.eqv (.tuple xs) (.tuple []) = xs.isEmpty := by
  cases xs <;> simp [PyData.eqv, PyData.eqvAll]
end Ey
namespace Ey
theorem move_permS {α : Type} {ls ns : List α} {i : Nat} (h : i < ls.length) : (ls.eraseIdx i ++ (ns ++ [ls[i]])).Perm (ls ++ ns) := by
  refine List.Perm.trans ?_ ((erase_perm h).append_right ns)
  rw [← List.append_assoc]
  exact List.perm_append_singleton ls[i] (ls.eraseIdx i ++ ns)
theorem erase_map {α β : Type} (f : α → β) : ∀ (l : List α) (i : Nat), (l.map f).eraseIdx i = (l.eraseIdx i).map f
  | [], _ => rfl
  | _ :: _, 0 => rfl
  | a :: l, i + 1 => by
    rw [List.map_cons, List.eraseIdx_cons_succ, List.eraseIdx_cons_succ, List.map_cons, erase_map f l i]
end Ey
namespace Ey
open PySem PySem.Spec PyProof.Rows L2
theorem ren_at {wl : List Wl} {v : Wl} {k : Nat} (hk : k < wl.length) : renD wl (.tuple [.int (k : Nat), v.D]) = wallD wl[k].n v.a v.b v.c v.d := by
  show ((wOf v.D).as ((wl[((k : Nat) : Int).toNat]?.map (·.n)).getD Str.empty)).D = _
  rw [wOf_D, Int.toNat_natCast, List.getElem?_eq_getElem hk]
  rfl
theorem get_rd {wl : List Wl} {w : Wl} (nd : (wl.map (·.n)).Nodup) (hw : w ∈ wl) {Q : PyData → Prop} (q : Q w.D) : ∃ (ks : KD) (k : Ky), PyData.dict ((pairsOf wl).map fun kd => (kD kd.1, kd.2)) = .dict (ks.map fun kd => (kD kd.1, kd.2)) ∧ PyData.str w.n = kD k ∧ onSome (findK ks k) Q :=
  ⟨pairsOf wl, .inr w.n, rfl, rfl, by rw [pairs_find nd hw]; exact q⟩
theorem if_plus {ρ : Env} {i : Nat} {xs : List PyData} (e : ρ[i]? = some (.d (.tuple xs))) (hs : SeqAt.shaped (.tuple xs) = true) (hl : xs.length ≤ 1000) {Q : PyData → Prop} (h : ∀ z, (z = .tuple (xs ++ cutD xs none (some 1)) ∨ z = .list []) → Q z) :
    dIf (dTB (dOp dNeF (dVar i) (dTup dNil))) (dOp dAddF (dVar i) (dSl dSlF (dVar i) dNoPart (dPart (dC (.int 1))))) (dLst dNil) ρ Q := by
  have ev : ∀ K : PyData → Prop, K (.tuple xs) → dVar i ρ K := fun K k => by
    show onD ρ[i]? K
    rw [e]
    exact k
  refine ev _ ⟨(by show 0 ≤ 1000; decide), hs, shaped_plan (wl := []) (fun w hw => absurd hw List.not_mem_nil), iteB_i (fun _ => ?_) (fun _ => ⟨(by show 0 ≤ 1000; decide), h _ (.inr rfl)⟩)⟩
  refine ev _ (ev _ ⟨?_, h _ (.inl rfl)⟩)
  have := cut_len xs none (some 1)
  omega
theorem text_one (w : Wl) : textS [w] = lineS w := by
  refine str_ext ?_
  unfold textS
  rw [join_cps]
  rfl
theorem text_nil : textS [] = ("" : Str) := by decide +kernel
theorem pln_one {w : Wl} (h : w.Real) : Pln [w] := ⟨⟨fun v hv => by rw [List.mem_singleton.mp hv]; exact h, by simp⟩, List.pairwise_singleton _ _⟩
theorem enum_mem {xs : List PyData} {z : PyData} (h : z ∈ enumD 0 xs) : ∃ (i : Nat) (x : PyData), xs[i]? = some x ∧ z = .tuple [.int (i : Nat), x] := by
  obtain ⟨i, hi⟩ := List.getElem?_of_mem h
  obtain ⟨x, hx, e⟩ := enum_get hi
  rw [Nat.zero_add] at e
  exact ⟨i, x, hx, e⟩
end Ey
/-! ### numerals of any size -/
namespace Ey
open PySem PySem.Spec PyProof.Rows L2
def digL : List Nat → List Nat
  | 45 :: r => r
  | l => l
def isDg (c : Nat) : Bool := decide (48 ≤ c) && decide (c ≤ 57)
def bareOk (l : List Nat) : Bool := !(digL l).isEmpty && (digL l).all isDg
def valL : List Nat → Int
  | 45 :: r => -((NumText.digitsVal r : Nat) : Int)
  | l => ((NumText.digitsVal l : Nat) : Int)
def canonL (l : List Nat) : Bool := decide ((digL l).head? ≠ some 48) || decide (l = [48])
def numL (l : List Nat) : Bool := bareOk l && canonL l
theorem dg_digits : ∀ c : Nat, decide (c ∈ digitsS.cps.toList) = isDg c := fun c => by
  have e : digitsS.cps.toList = [48, 49, 50, 51, 52, 53, 54, 55, 56, 57] := by decide +kernel
  rw [e]
  unfold isDg
  rw [← Bool.decide_and]
  congr 1
  simp only [List.mem_cons, List.not_mem_nil, or_false, eq_iff_iff]
  omega
theorem rm_minus (w : Str) : (Txt.removeprefix w ("-" : Str)).cps.toList = digL w.cps.toList := by
  have em : ("-" : Str) = ⟨#[45]⟩ := by decide +kernel
  rw [em, StrLaws.removeprefix_eq]
  have h1 : (⟨#[45]⟩ : Str).length = 1 := rfl
  have h2 := StrLaws.subAt_eq w ⟨#[45]⟩ 0
  have h3 : w.length = w.cps.toList.length := (Array.length_toList).symm
  rw [h2, h1]
  have ec : (⟨#[45]⟩ : Str).cps.toList = [45] := rfl
  rw [ec, List.drop_zero]
  cases e : w.cps.toList with
  | nil =>
    rw [if_neg (by simp)]
    exact e
  | cons c r =>
    by_cases hc : c = 45
    · subst hc
      rw [if_pos (by rw [h3, e]; simp)]
      rw [h3, e]
      show List.take _ (List.drop 1 (45 :: r)) = r
      rw [List.drop_succ_cons, List.drop_zero, List.length_cons, Nat.add_sub_cancel, List.take_length]
    · rw [if_neg (by simp; exact fun _ => hc)]
      rw [e]
      unfold digL
      split
      · rename_i h
        exact (hc (List.cons.inj h).1).elim
      · rfl
theorem all_dg {l : List Nat} (h : l.all isDg = true) : NumText.AllDigits l := fun c hc => by
  have := List.all_eq_true.mp h c hc
  unfold isDg at this
  simpa using this
theorem int_of {x : Str} (h : bareOk x.cps.toList = true) (hl : x.length ≤ 4300) : intText? x = some (valL x.cps.toList) := by
  unfold bareOk at h
  rw [Bool.and_eq_true] at h
  obtain ⟨h1, h2⟩ := h
  cases e : x.cps.toList with
  | nil =>
    rw [e] at h1
    cases h1
  | cons c r =>
    rw [e] at h1 h2
    by_cases hc : c = 45
    · subst hc
      exact intText_neg e (all_dg h2) (by simpa [digL] using h1) hl
    · have ed : digL (c :: r) = c :: r := by
        unfold digL
        split
        · rename_i h
          exact (hc (List.cons.inj h).1).elim
        · rfl
      rw [ed] at h2
      have ev : valL (c :: r) = ((NumText.digitsVal (c :: r) : Nat) : Int) := by
        unfold valL
        split
        · rename_i h
          exact (hc (List.cons.inj h).1).elim
        · rfl
      rw [ev, ← e]
      exact intText_digits (by rw [e]; exact all_dg h2) (by rw [e]; simp) hl
end Ey
namespace Ey
open PySem PySem.Spec PyProof.Rows L2
theorem num_nat (m : Nat) : (numS (m : Int)).cps.toList = (Nat.toDigits 10 m).map Char.toNat := W.KIN.signs_num m
theorem num_neg (m : Nat) : (numS (-((m + 1 : Nat) : Int))).cps.toList = 45 :: (numS ((m + 1 : Nat) : Int)).cps.toList := by
  have e : (toString (-((m + 1 : Nat) : Int)) : String) = "-" ++ (toString ((m + 1 : Nat) : Int) : String) := rfl
  have e2 : ∀ s : String, (Str.ofString s).cps.toList = s.toList.map Char.toNat := fun s => by
    have z := W.Fast.ofString_ofList s.toList
    rw [String.ofList_toList] at z
    rw [z]
  show (Str.ofString (toString (-((m + 1 : Nat) : Int)) : String)).cps.toList = 45 :: (Str.ofString (toString ((m + 1 : Nat) : Int) : String)).cps.toList
  rw [e, e2, e2, String.toList_append, List.map_append]
  rfl
theorem dg_back {l : List Nat} (h : l.all isDg = true) : (l.map Char.ofNat).map Char.toNat = l := by
  rw [List.map_map]
  have : ∀ c ∈ l, (Char.toNat ∘ Char.ofNat) c = c := fun c hc => by
    have := all_dg h c hc
    have hv : c.isValidChar := .inl (by omega)
    show (Char.ofNat c).toNat = c
    unfold Char.ofNat
    rw [dif_pos hv]
    rfl
  calc l.map (Char.toNat ∘ Char.ofNat) = l.map id := List.map_congr_left this
    _ = l := List.map_id l
theorem nat_back {l : List Nat} (h : l.all isDg = true) : (numS ((NumText.digitsVal l : Nat) : Int)).cps.toList = (match l.dropWhile (· == 48) with | [] => [48] | c :: r => c :: r) := by
  rw [num_nat, NumText.toDigits_all l (all_dg h)]
  have hs : (l.dropWhile (· == 48)).all isDg = true := by
    rw [List.all_eq_true]
    intro c hc
    exact List.all_eq_true.mp h c ((List.dropWhile_sublist _).subset hc)
  cases e : l.dropWhile (· == 48) with
  | nil => rfl
  | cons c r =>
    rw [e] at hs
    exact dg_back hs
theorem drop_head {l : List Nat} {c : Nat} {r : List Nat} (h : l.dropWhile (· == 48) = c :: r) : c ≠ 48 := by
  induction l with
  | nil => cases h
  | cons a l ih =>
    rw [List.dropWhile_cons] at h
    split at h
    · exact ih h
    · rename_i n
      have := (List.cons.inj h).1
      subst this
      simpa using n
theorem str_back {l : List Nat} (h : bareOk l = true) : (numS (valL l)).cps.toList = l ↔ canonL l = true := by
  unfold bareOk at h
  rw [Bool.and_eq_true] at h
  obtain ⟨h1, h2⟩ := h
  cases l with
  | nil => cases h1
  | cons c r =>
    by_cases hc : c = 45
    · subst hc
      have h2 : r.all isDg = true := h2
      have h1 : r ≠ [] := by simpa [digL] using h1
      have nb := nat_back h2
      show (numS (-((NumText.digitsVal r : Nat) : Int))).cps.toList = 45 :: r ↔ _
      have cn : canonL (45 :: r) = decide (r.head? ≠ some 48) := by
        unfold canonL
        rw [show digL (45 :: r) = r from rfl, decide_eq_false (show ¬ (45 :: r : List Nat) = [48] by simp), Bool.or_false]
      rw [cn, decide_eq_true_eq]
      cases ev : NumText.digitsVal r with
      | zero =>
        rw [ev] at nb
        have e0 : (numS ((0 : Nat) : Int)).cps.toList = [48] := by decide +kernel
        rw [e0] at nb
        have ed : r.dropWhile (· == 48) = [] := by
          cases e : r.dropWhile (· == 48) with
          | nil => rfl
          | cons a t =>
            rw [e] at nb
            exact (drop_head e (List.cons.inj nb).1.symm).elim
        refine ⟨fun z => ?_, fun z => ?_⟩
        · exact absurd (e0.symm.trans z) (by simp)
        · cases r with
          | nil => exact (h1 rfl).elim
          | cons a t =>
            rw [List.dropWhile_cons] at ed
            split at ed
            · rename_i n
              exact (z (by rw [List.head?_cons, show a = 48 by simpa using n])).elim
            · cases ed
      | succ m =>
        rw [num_neg, ← ev, nb]
        refine ⟨fun z => ?_, fun z => ?_⟩
        · have z := (List.cons.inj z).2
          split at z
          · rename_i e
            rw [← z] at e
            have : NumText.digitsVal r = 0 := by rw [← z]; decide
            omega
          · rename_i a t e
            rw [← z]
            intro y
            exact drop_head e (Option.some.inj y)
        · congr 1
          cases r with
          | nil => exact (h1 rfl).elim
          | cons a t =>
            have na : ¬ a = 48 := fun y => z (by rw [List.head?_cons, y])
            rw [List.dropWhile_cons, if_neg (by simpa using na)]
    · have ed : digL (c :: r) = c :: r := by
        unfold digL
        split
        · rename_i h
          exact (hc (List.cons.inj h).1).elim
        · rfl
      have ev : valL (c :: r) = ((NumText.digitsVal (c :: r) : Nat) : Int) := by
        unfold valL
        split
        · rename_i h
          exact (hc (List.cons.inj h).1).elim
        · rfl
      rw [ed] at h2
      rw [ev, nat_back h2]
      unfold canonL
      rw [ed, Bool.or_eq_true, decide_eq_true_eq, decide_eq_true_eq]
      refine ⟨fun z => ?_, fun z => ?_⟩
      · split at z
        · exact .inr z.symm
        · rename_i a t e
          left
          rw [← z]
          intro y
          exact drop_head e (Option.some.inj y)
      · rcases z with z | z
        · have na : ¬ c = 48 := fun y => z (by rw [List.head?_cons, y])
          rw [List.dropWhile_cons, if_neg (by simpa using na)]
        · rw [z]
          rfl
end Ey
/-! ### try over data: return (word, e.fld) if isinstance(e, B) else (other, None) behind one clause -/
namespace Ey
open PySem PySem.Spec PyProof.Rows L2
abbrev told2Ts (K : PySem.W.Frag) (C B : Addr) (fld s s2 : Str) (i : Nat) : Addr → Value → Option Addr → TS := fun a cls d =>
  tRet (tIf (tB (tCB (rIsEr K C a fld cls d) (tCons (tVar i) (tCons (tC (.ref B)) tNil)))) (tTup (tCons (tC (.str s)) (tCons (tByEr C fld a cls d (tVar i)) tNil))) (tTup (tCons (tC (.str s2)) (tCons (tC .non) tNil))))
def dTryTold2 (c s : Str) (t : (Str → PyData → Prop) → DS) : DS := fun D ρ => t (fun c' x => c' = c ∧ D.rt (.tuple [.str s, x])) D ρ
theorem ss_tryTold2 {K : PySem.W.Frag} {f : Fx} {C B : Addr} {c fld s s2 : Str} {i : Nat} {tb : WX → TS} {t : (Str → PyData → Prop) → DS} (hC : f.cl c = C) (hf : fldOf c = fld) (te : PySem.W.exmOne K (.ref C) (.ref C) = some true) (ki : PySem.W.kitOne K (.ref C) (.ref B) = some true)
    (hb : ∀ (W : WX) (g : Fx) (Ed : Str → PyData → Prop), g.Ed = Ed → g.cl = f.cl → (∀ σ v d H, i < σ.length → g.E v d H → W v d σ H) → SS g (tb W) (t Ed)) :
    SS f (fun D σ H => tb (wAs K (.ref C) i (told2Ts K C B fld s s2 i) (fun _ _ _ _ => False) D) D σ H) (dTryTold2 c s t) := fun L σ H ρ D E r q o => by
  let Ed' : Str → PyData → Prop := fun c' x => c' = c ∧ D.rt (.tuple [.str s, x])
  let E' : XK := fun v d H' => v = .ref C ∧ ∃ a x u, d = some a ∧ Ed' c x ∧ Go f f.H0 H' ∧ f.H0 a = none ∧ H' a = some (.xd [(fld, u)]) ∧ Dd f.F0 H' u x
  have ok : (f.err E' Ed').Ok := ⟨r.ok.opn, r.ok.off, r.ok.dk, fun c' x a v H' e g n e2 d => by
    obtain ⟨rfl, e⟩ := e
    rw [hf] at e2
    exact ⟨by show Value.ref (f.cl c') = _; rw [hC], a, x, v, rfl, ⟨rfl, e⟩, g.unerr, n, e2, d⟩⟩
  refine hb _ (f.err E' Ed') Ed' rfl rfl (fun σ2 v d H2 hi e => ?_) L σ H ρ D E (r.err ok) q (o.err r.ok)
  obtain ⟨rfl, a, x, u, rfl, ⟨_, e⟩, g, n, e2, dx⟩ := e
  refine ⟨true, te, fun _ a0 n0 => ?_, fun z => by cases z⟩
  have at_i : (σ2.set i (some (V.ref a0)))[i]? = some (some (.ref a0)) := by rw [List.getElem?_set_self hi]
  refine ⟨.ref a0, at_i, .ref B, .ref B, true, a, u, rfl, rfl, rfl, e2, fun u r => r, ki, true, rfl, .ref a0, at_i, rfl, rfl, a, u, rfl, e2, by show 2 ≤ sizeLine; decide, fun p np => ?_⟩
  have g2 : Go f f.H0 (upd H2 p (.tup [.str s, u])) := g.new np
  have k2 : Dd f.F0 (upd H2 p (.tup [.str s, u])) u x := dx.keep (keep_of0 r.ok g.dk (Go.of g.dk (Evl.Ex.new np)))
  exact o.rt _ _ _ g2 (.tup upd_same (.cons (.str _) (.cons k2 .nil))) e
/-! repr(a) == repr(b) of the same data, repr(a) == text -/
theorem str_alike (z : Str) : decide (V.str z = V.str z) = true := decide_eq_true rfl
def dReprEq (t u : DE) : DE := fun ρ Q => t ρ fun x => Rz 7000 50 x ∧ u ρ fun y => y = x ∧ Q (.bool true)
theorem se_reprEq {f : Fx} {ta tb : TE} {da db : DE} (h1 : SE f ta da) (h2 : SE f tb db) : SE f (tOp rEq (tCB rRepr (tCons ta tNil)) (tCB rRepr (tCons tb tNil))) (dReprEq da db) := fun L σ H ρ Q R r q k =>
  h1 L σ H ρ _ _ r q fun v H1 x g dx q => by
    obtain ⟨z, q1⟩ := q
    refine ⟨v, Fr f L, x, rfl, dx, z, h2 L σ H1 ρ _ _ (r.mv g) q1 fun u H2 y g2 dy q2 => ?_⟩
    obtain ⟨rfl, q3⟩ := q2
    refine ⟨u, Fr f L, y, rfl, dy, z, rfl, ?_⟩
    rw [str_alike]
    exact k _ H2 _ (g.trans g2) (.bl _) q3
def dReprEqV (t u : DE) : DE := fun ρ Q => t ρ fun x => Rz 7000 50 x ∧ u ρ fun y => y = .str x.shown ∧ Q (.bool true)
theorem se_reprEqV {f : Fx} {ta tb : TE} {da db : DE} (h1 : SE f ta da) (h2 : SE f tb db) : SE f (tOp rEq (tCB rRepr (tCons ta tNil)) tb) (dReprEqV da db) := fun L σ H ρ Q R r q k =>
  h1 L σ H ρ _ _ r q fun v H1 x g dx q => by
    obtain ⟨z, q1⟩ := q
    refine ⟨v, Fr f L, x, rfl, dx, z, h2 L σ H1 ρ _ _ (r.mv g) q1 fun u H2 y g2 dy q2 => ?_⟩
    obtain ⟨rfl, q3⟩ := q2
    cases dy
    refine ⟨rfl, ?_⟩
    rw [str_alike]
    exact k _ H2 _ (g.trans g2) (.bl _) q3
/-! {} -/
def dDict0 : DE := fun _ Q => Q (.dict [])
theorem se_dict0 {f : Fx} : SE f tDNewK dDict0 := fun L σ H ρ Q R r q k p np => k _ _ _ (r.new np) (.dic (kvs := []) (ds := []) (r.opn np) upd_same .nil) q
end Ey
/-! ### runs of digits; the words and lines of any text -/
namespace Ey
open PySem PySem.Spec PyProof.Rows L2
/-- no more than n digits one behind another -/
def RunL (n : Nat) (l : List Nat) : Prop := ∀ a d b : List Nat, l = a ++ d ++ b → d.all isDg = true → d.length ≤ n
theorem run_sub {n : Nat} {l a m b : List Nat} (h : RunL n l) (e : l = a ++ m ++ b) : RunL n m := fun a' d b' e2 hd => by
  refine h (a ++ a') d (b' ++ b) ?_ hd
  rw [e, e2]
  simp
theorem run_short {n : Nat} {l : List Nat} (h : l.length ≤ n) : RunL n l := fun a d b e hd => by
  rw [e, List.length_append, List.length_append] at h
  omega
theorem run_mono {n m : Nat} {l : List Nat} (h : RunL n l) (k : n ≤ m) : RunL m l := fun a d b e hd => Nat.le_trans (h a d b e hd) k
theorem run_app {n m : Nat} {l k : List Nat} (h : RunL n l) (g : RunL m k) : RunL (n + m) (l ++ k) := fun a d b e hd => by
  rw [List.append_assoc] at e
  rcases List.append_eq_append_iff.mp e with ⟨c, e1, e2⟩ | ⟨c, e1, e2⟩
  · -- a = l ++ c, k = c ++ (d ++ b)
    have := g c d b (by rw [e2, List.append_assoc]) hd
    omega
  · -- l = a ++ c, d ++ b = c ++ k
    rcases List.append_eq_append_iff.mp e2 with ⟨t, f1, f2⟩ | ⟨t, f1, f2⟩
    · have := h a d t (by rw [e1, f1, List.append_assoc]) hd
      omega
    · have hd2 := hd
      rw [f1, List.all_append, Bool.and_eq_true] at hd2
      have p1 := h a c [] (by rw [e1, List.append_nil]) hd2.1
      have p2 := g [] t b (by rw [f2, List.nil_append]) hd2.2
      rw [f1, List.length_append]
      omega
theorem run_sep {n : Nat} {c : Nat} {l k : List Nat} (h : RunL n l) (g : RunL n k) (hc : isDg c = false) : RunL n (l ++ c :: k) := fun a d b e hd => by
  rw [List.append_assoc] at e
  rcases List.append_eq_append_iff.mp e with ⟨t, e1, e2⟩ | ⟨t, e1, e2⟩
  · -- a = l ++ t, c :: k = t ++ (d ++ b)
    cases t with
    | nil =>
      cases d with
      | nil => exact Nat.zero_le _
      | cons x d =>
        have ex : c = x := (List.cons.inj e2).1
        subst ex
        rw [List.all_cons, hc] at hd
        cases hd
    | cons x t =>
      exact g t d b (by rw [(List.cons.inj e2).2, List.append_assoc]; rfl) hd
  · -- l = a ++ t, d ++ b = t ++ c :: k
    rcases List.append_eq_append_iff.mp e2 with ⟨u, f1, f2⟩ | ⟨u, f1, f2⟩
    · exact h a d u (by rw [e1, f1, List.append_assoc]) hd
    · cases u with
      | nil => exact h a d [] (by rw [f1, List.append_nil, List.append_nil, e1]) hd
      | cons x u =>
        have ex : c = x := (List.cons.inj f2).1
        subst ex
        rw [f1, List.all_append, List.all_cons, hc] at hd
        simp at hd
theorem run_jl {n c : Nat} (hc : isDg c = false) : ∀ {ys : List (List Nat)}, (∀ y ∈ ys, RunL n y) → RunL n (jl [c] ys)
  | [], _ => run_short (Nat.zero_le _)
  | [x], h => h x List.mem_cons_self
  | x :: y :: r, h => run_sep (h x List.mem_cons_self) (run_jl hc fun z hz => h z (List.mem_cons_of_mem _ hz)) hc
theorem jl_part {s : List Nat} : ∀ {ys : List (List Nat)} {y : List Nat}, y ∈ ys → ∃ a b, jl s ys = a ++ y ++ b
  | [x], y, h => by
    rw [List.mem_singleton.mp h]
    exact ⟨[], [], by simp [jl]⟩
  | x :: z :: r, y, h => by
    rcases List.mem_cons.mp h with rfl | h
    · exact ⟨[], s ++ jl s (z :: r), by simp [jl]⟩
    · obtain ⟨a, b, e⟩ := jl_part (s := s) h
      exact ⟨x ++ s ++ a, b, by rw [show jl s (x :: z :: r) = x ++ (s ++ jl s (z :: r)) from rfl, e]; simp⟩
/-- a text of the law -/
structure Tx (n m : Nat) (z : Str) : Prop where
  ok : Okc z
  len : z.length ≤ n
  run : RunL m z.cps.toList
theorem split_part {z w : Str} {c : Nat} (h : w ∈ Txt.split z ⟨#[c]⟩) : ∃ a b, z.cps.toList = a ++ w.cps.toList ++ b := by
  have e : Txt.join ⟨#[c]⟩ (Txt.split z ⟨#[c]⟩) = z := (StrLaws.glued_eq_join _ _).trans (StrLaws.join_split _ _)
  have e2 := join_cps ⟨#[c]⟩ (Txt.split z ⟨#[c]⟩)
  rw [e] at e2
  obtain ⟨a, b, e3⟩ := jl_part (s := [c]) (List.mem_map_of_mem (f := fun w : Str => w.cps.toList) h)
  exact ⟨a, b, e2.trans e3⟩
theorem Tx.part {n m : Nat} {z w : Str} {a b : List Nat} (h : Tx n m z) (e : z.cps.toList = a ++ w.cps.toList ++ b) : Tx n m w := by
  refine ⟨fun c hc => h.ok c (by rw [e]; simp [hc]), ?_, run_sub h.run e⟩
  have hl := h.len
  have e1 : z.length = z.cps.toList.length := (Array.length_toList).symm
  have e2 : w.length = w.cps.toList.length := (Array.length_toList).symm
  rw [e1, e, List.length_append, List.length_append] at hl
  rw [e2]
  omega
theorem Tx.word {n m : Nat} {z w : Str} {c : Nat} (h : Tx n m z) (hw : w ∈ Txt.split z ⟨#[c]⟩) : Tx n m w := by
  obtain ⟨a, b, e⟩ := split_part hw
  exact h.part e
/-! values -/
theorem fold_lt : ∀ (l : List Nat) (acc : Nat), NumText.AllDigits l → l.foldl (fun acc c => acc * 10 + (c - 48)) acc < (acc + 1) * 10 ^ l.length
  | [], acc, _ => by simp
  | c :: l, acc, h => by
    have hc := h c List.mem_cons_self
    have ih := fold_lt l (acc * 10 + (c - 48)) fun x hx => h x (List.mem_cons_of_mem _ hx)
    rw [List.foldl_cons, List.length_cons, Nat.pow_succ]
    refine Nat.lt_of_lt_of_le ih ?_
    rw [Nat.mul_comm (10 ^ l.length) 10, ← Nat.mul_assoc]
    exact Nat.mul_le_mul_right _ (by omega)
theorem val_lt {l : List Nat} (h : bareOk l = true) (hr : RunL 12 l) : (valL l).natAbs < 2 ^ 40 := by
  unfold bareOk at h
  rw [Bool.and_eq_true] at h
  have key : ∀ d : List Nat, d.all isDg = true → d.length ≤ 12 → NumText.digitsVal d < 2 ^ 40 := fun d hd hl => by
    have := fold_lt d 0 (all_dg hd)
    refine Nat.lt_of_lt_of_le this ?_
    rw [Nat.zero_add, Nat.one_mul]
    exact Nat.le_trans (Nat.pow_le_pow_right (by decide) hl) (by decide)
  cases l with
  | nil => cases h.1
  | cons c r =>
    by_cases hc : c = 45
    · subst hc
      have hd : r.all isDg = true := h.2
      have := key r hd (hr [45] r [] (by simp) hd)
      show (-((NumText.digitsVal r : Nat) : Int)).natAbs < _
      omega
    · have ed : digL (c :: r) = c :: r := by
        unfold digL
        split
        · rename_i h
          exact (hc (List.cons.inj h).1).elim
        · rfl
      have ev : valL (c :: r) = ((NumText.digitsVal (c :: r) : Nat) : Int) := by
        unfold valL
        split
        · rename_i h
          exact (hc (List.cons.inj h).1).elim
        · rfl
      rw [ed] at h
      have := key (c :: r) h.2 (hr [] (c :: r) [] (by simp) h.2)
      rw [ev]
      omega
/-! lines as walls -/
def segWl (ws : List Str) : Wl := ⟨ws.getD 1 Str.empty, valL (ws.getD 2 Str.empty).cps.toList, valL (ws.getD 3 Str.empty).cps.toList, valL (ws.getD 4 Str.empty).cps.toList, valL (ws.getD 5 Str.empty).cps.toList⟩
def segOk (ws : List Str) : Bool := decide (ws.length = 6) && (decide (ws.getD 0 Str.empty = ("wall" : Str)) && ((ws.drop 2).all (fun w => numL w.cps.toList) && segB (segWl ws).D))
def segD (ws : List Str) : PyData := if segOk ws = true then (segWl ws).D else .none
theorem sixW {ws : List Str} (h : ws.length = 6) : ∃ a b c d e f, ws = [a, b, c, d, e, f] := by
  match ws, h with
  | [a, b, c, d, e, f], _ => exact ⟨a, b, c, d, e, f, rfl⟩
end Ey
namespace Ey
open PySem PySem.Spec PyProof.Rows L2
def nmD : PyData → Bool
  | .str t => numL t.cps.toList
  | _ => false
def valD : PyData → PyData
  | .str t => .int (valL t.cps.toList)
  | x => x
theorem num_bare {l : List Nat} (h : numL l = true) : bareOk l = true := by
  unfold numL at h
  rw [Bool.and_eq_true] at h
  exact h.1
theorem Tx.mono {n m n' m' : Nat} {z : Str} (h : Tx n m z) (a : n ≤ n') (b : m ≤ m') : Tx n' m' z := ⟨h.ok, Nat.le_trans h.len a, run_mono h.run b⟩
theorem Tx.int {z : Str} (h : Tx 200 12 z) (g : numL z.cps.toList = true) : intText? z = some (valL z.cps.toList) := int_of (num_bare g) (Nat.le_trans h.len (by decide))
theorem Tx.sz {n m : Nat} {z : Str} (h : Tx n m z) : Sz n 0 (.str z) := sz_str (List.all_eq_true.mpr fun c hc => decide_eq_true (Nat.lt_trans (h.ok c hc) (by decide))) h.len
theorem wall_fit {n : Str} {a b c d : Int} (h : Tx 200 12 n) (ha : a.natAbs < 2 ^ 40) (hb : b.natAbs < 2 ^ 40) (hc : c.natAbs < 2 ^ 40) (hd : d.natAbs < 2 ^ 40) : Sz 210 2 (wallD n a b c d) := by
  have z0 : ∀ i : Int, i.natAbs < 2 ^ 40 → Sz 0 0 (.int i) := fun i h => sz_int (Nat.lt_of_lt_of_le h (Nat.pow_le_pow_right (by decide) (by decide)))
  have pr : ∀ i j : Int, i.natAbs < 2 ^ 40 → j.natAbs < 2 ^ 40 → Sz 2 1 (prD i j) := fun i j h h2 => ((sza_cons (z0 i h) (sza_cons (z0 j h2) sza_nil)).tuple).mono (by decide) (by decide)
  exact ((sza_cons (h.sz.mono (Nat.le_refl _) (Nat.zero_le 1)) (sza_cons (pr a b ha hb) (sza_cons (pr c d hc hd) sza_nil))).tuple).mono (by decide) (by decide)
theorem eqi (i j : Int) : PyData.eqv (.int i) (.int j) = decide (i = j) := by
  simp [PyData.eqv, Bool.beq_eq_decide_eq]
end Ey
namespace Ey
open PySem PySem.Spec PyProof.Rows L2
theorem nb_t {b : Bool} (h : (!b) = true) : b = false := by cases b <;> simp_all
theorem nb_f {b : Bool} (h : (!b) = false) : b = true := by cases b <;> simp_all
/-- a wall read from a text -/
structure WOk (w : Wl) : Prop where
  nm : Tx 200 12 w.n
  a : w.a.natAbs < 2 ^ 40
  b : w.b.natAbs < 2 ^ 40
  c : w.c.natAbs < 2 ^ 40
  d : w.d.natAbs < 2 ^ 40
  seg : segB w.D = true
theorem WOk.sm {w : Wl} (h : WOk w) : Sm w.a w.b ∧ Sm w.c w.d := by
  have z : ∀ {i : Int}, i.natAbs < 2 ^ 40 → i.natAbs < 2 ^ 250 := fun h => Nat.lt_of_lt_of_le h (Nat.pow_le_pow_right (by decide) (by decide))
  exact ⟨⟨z h.a, z h.b⟩, ⟨z h.c, z h.d⟩⟩
theorem WOk.sz {w : Wl} (h : WOk w) : Sz 210 2 w.D := wall_fit h.nm h.a h.b h.c h.d
theorem WOk.name {w : Wl} (h : WOk w) : nameB (.str w.n) = true := by
  have z : (nameB (.str w.n) && (isInts 2 (prD w.a w.b) && (isInts 2 (prD w.c w.d) && !PyData.eqv (prD w.a w.b) (prD w.c w.d)))) = true := h.seg
  rw [Bool.and_eq_true] at z
  exact z.1
theorem seg_ok {ws : List Str} (h : segOk ws = true) (hw : ∀ w ∈ ws, Tx 200 12 w) : WOk (segWl ws) := by
  unfold segOk at h
  rw [Bool.and_eq_true, Bool.and_eq_true, Bool.and_eq_true] at h
  obtain ⟨h1, h2, h3, h4⟩ := h
  obtain ⟨w0, w1, w2, w3, w4, w5, rfl⟩ := sixW (of_decide_eq_true h1)
  have n : (numL w2.cps.toList && (numL w3.cps.toList && (numL w4.cps.toList && (numL w5.cps.toList && true)))) = true := h3
  simp only [Bool.and_eq_true, Bool.and_true] at n
  obtain ⟨n2, n3, n4, n5⟩ := n
  exact ⟨hw w1 (by simp), val_lt (num_bare n2) (hw w2 (by simp)).run, val_lt (num_bare n3) (hw w3 (by simp)).run, val_lt (num_bare n4) (hw w4 (by simp)).run, val_lt (num_bare n5) (hw w5 (by simp)).run, h4⟩
def fitsB (vl : List Wl) (w : Wl) : Bool := vl.all fun v => decide (v.n ≠ w.n) && !clashW v w
def lineOk (found : List Wl) (l : Str) : Bool := segOk (Txt.split l (" " : Str)) && fitsB found (segWl (Txt.split l (" " : Str)))
def readL : List Wl → Nat → List Str → Nat ⊕ List Wl
  | found, _, [] => .inr found
  | found, k, l :: r => if lineOk found l = true then readL (found ++ [segWl (Txt.split l (" " : Str))]) (k + 1) r else .inl k
def readT (z : Str) : Nat ⊕ List Wl := if z = ("" : Str) then .inr [] else readL [] 1 (Txt.split z ("\n" : Str))
def onRead (r : Nat ⊕ List Wl) (Q : List Wl → Prop) (E : Nat → Prop) : Prop := Sum.casesOn (motive := fun _ => Prop) r E Q
theorem segD_none {ws : List Str} : isNone (segD ws) = !segOk ws := by
  unfold segD
  cases segOk ws with
  | true => rfl
  | false => rfl
theorem segD_wall {ws : List Str} (h : segOk ws = true) : segD ws = (segWl ws).D := by
  unfold segD
  rw [if_pos h]
theorem split_len {z : Str} {c : Nat} : (Txt.split z ⟨#[c]⟩).length ≤ z.length + 1 := by
  have e : Txt.join ⟨#[c]⟩ (Txt.split z ⟨#[c]⟩) = z := (StrLaws.glued_eq_join _ _).trans (StrLaws.join_split _ _)
  have e2 := join_cps ⟨#[c]⟩ (Txt.split z ⟨#[c]⟩)
  rw [e] at e2
  have ge : ∀ ys : List (List Nat), ys.length ≤ (jl [c] ys).length + 1 := by
    intro ys
    induction ys with
    | nil => simp
    | cons x r ih =>
      cases r with
      | nil => simp
      | cons y r =>
        show (x :: y :: r).length ≤ (x ++ ([c] ++ jl [c] (y :: r))).length + 1
        rw [List.length_append, List.length_append, List.length_cons]
        have h1 : [c].length = 1 := rfl
        omega
  have := ge ((Txt.split z ⟨#[c]⟩).map (·.cps.toList))
  have e3 : (jl (⟨#[c]⟩ : Str).cps.toList ((Txt.split z ⟨#[c]⟩).map (·.cps.toList))).length = z.length := by
    rw [← e2]
    exact Array.length_toList
  rw [List.length_map] at this
  have e4 : (jl [c] ((Txt.split z ⟨#[c]⟩).map (·.cps.toList))).length = z.length := e3
  omega
end Ey
/-! ### slices, of strings too -/
namespace Ey
open PySem PySem.Spec PyProof.Rows L2
def rSlW (K : PySem.W.Frag) : V → Option Int → Option Int → Hp → VK → Prop := fun x lo hi H Q => rSlF K x lo hi H Q ∨ rSlS x lo hi H Q
theorem qe_slW {X : Cx} {K : PySem.W.Frag} (hK : X.K = K) {e : Expr} {te : TE} {pos : Pos} {lo hi : Option Expr} {t1 t2 : TO} {p2 : Pos} (he : PE X e te) (hl : PO X lo t1) (hu : PO X hi t2) : PE X (.Subscript e (.Slice lo hi none p2) pos) (tSl (rSlW K) te t1 t2) := by
  subst hK
  exact pe_slice (SlR.or sl_any sl_str) he hl hu
def dSlW : PyData → Option Int → Option Int → (PyData → Prop) → Prop := fun x lo hi Q => byD x (t := fun xs => Q (.tuple (cutD xs lo hi))) (l := fun xs => Q (.list (cutD xs lo hi))) (z := fun z => z.length ≤ 100000 ∧ Q (.str (cutS z lo hi)))
theorem s3_slW {f : Fx} {K : PySem.W.Frag} : S3 f (rSlW K) dSlW := fun L σ H ρ v x lo hi Q R r dx q k => by
  cases dx with
  | str z => exact .inr ⟨z, rfl, Nat.le_trans q.1 (by decide), k _ H _ r.self (.str _) q.2⟩
  | tup ea a => exact .inl (s3_sl L σ H ρ _ _ lo hi Q R r (.tup ea a) q k)
  | lst fa ea a => exact .inl (s3_sl L σ H ρ _ _ lo hi Q R r (.lst fa ea a) q k)
  | _ => exact q.elim
theorem cutS_list (z : Str) (lo hi : Option Int) : (cutS z lo hi).cps.toList = (z.cps.toList.drop (HT.sIx z.length 0 lo)).take (HT.sIx z.length z.length hi - HT.sIx z.length 0 lo) := rfl
theorem strL (z : Str) : z.length = z.cps.toList.length := (Array.length_toList).symm
theorem cutS_to {z : Str} {n : Nat} (h : n ≤ z.length) : (cutS z none (some (n : Int))).cps.toList = z.cps.toList.take n := by
  rw [cutS_list, six_nn h]
  rfl
theorem cutS_from {z : Str} {n : Nat} (h : n ≤ z.length) : (cutS z (some (n : Int)) none).cps.toList = z.cps.toList.drop n := by
  rw [cutS_list, six_nn h]
  show (z.cps.toList.drop n).take (z.length - n) = _
  rw [strL, ← List.length_drop, List.take_length]
theorem cut_one (z : Str) : (cutS z none (some 1)).cps.toList = z.cps.toList.take 1 := by
  by_cases h : 1 ≤ z.length
  · exact cutS_to (n := 1) h
  · have e : z.cps.toList = [] := List.length_eq_zero_iff.mp (by rw [← strL]; omega)
    rw [cutS_list, e]
    simp
theorem cut_rest (z : Str) : (cutS z (some 1) none).cps.toList = z.cps.toList.drop 1 := by
  by_cases h : 1 ≤ z.length
  · exact cutS_from (n := 1) h
  · have e : z.cps.toList = [] := List.length_eq_zero_iff.mp (by rw [← strL]; omega)
    rw [cutS_list, e]
    simp
/-- the text without its sign -/
theorem bare_rd {ρ : Env} {z : Str} (e : ρ[0]? = some (.d (.str z))) (hz : Okc z) (hl : z.length ≤ 1000) {Q : PyData → Prop} (h : ∀ b : Str, b.cps.toList = digL z.cps.toList → Q (.str b)) :
    dIf (dTB (dOp dEqF (dSl dSlW (dVar 0) dNoPart (dPart (dC (.int 1)))) (dC (.str ("-" : Str))))) (dSl dSlW (dVar 0) (dPart (dC (.int 1))) dNoPart) (dVar 0) ρ Q := by
  have ev : ∀ K : PyData → Prop, K (.str z) → dVar 0 ρ K := fun K k => by
    show onD ρ[0]? K
    rw [e]
    exact k
  have em : ("-" : Str) = ⟨#[45]⟩ := by decide +kernel
  have oc : Okc (cutS z none (some 1)) := fun c hc => hz c (by rw [cut_one] at hc; exact List.mem_of_mem_take hc)
  refine ev _ ⟨Nat.le_trans hl (by decide), shs oc, shs (okc_lit (by decide +kernel)), ?_⟩
  rw [eqs, em]
  refine iteB_i (fun h1 => ?_) (fun h1 => ?_)
  · have h1 := of_decide_eq_true h1
    have h2 : z.cps.toList.take 1 = [45] := by rw [← cut_one, h1]
    refine ev _ ⟨Nat.le_trans hl (by decide), h _ ?_⟩
    rw [cut_rest]
    cases ez : z.cps.toList with
    | nil =>
      rw [ez] at h2
      cases h2
    | cons c r =>
      rw [ez] at h2
      have : c = 45 := (List.cons.inj h2).1
      subst this
      rfl
  · have h1 := of_decide_eq_false h1
    refine ev _ (h z ?_)
    cases ez : z.cps.toList with
    | nil => rfl
    | cons c r =>
      have hc : c ≠ 45 := fun y => by
        subst y
        exact h1 (str_ext (by rw [cut_one, ez]; rfl))
      unfold digL
      split
      · rename_i y
        exact (hc (List.cons.inj y).1).elim
      · rfl
def numV (z : Str) : PyData := if numL z.cps.toList = true then .int (valL z.cps.toList) else .none
end Ey
namespace Ey
open PySem PySem.Spec PyProof.Rows L2
def dgD : PyData → Bool
  | .str t => t.cps.toList.all isDg
  | _ => false
theorem dg_one (c : Nat) : dgD (.str ⟨#[c]⟩) = isDg c := by
  show ([c].all isDg) = _
  simp
theorem dgs_all (l : List Nat) : (l.map fun c => PyData.str ⟨#[c]⟩).all dgD = l.all isDg := by
  rw [List.all_map]
  congr 1
  funext c
  exact dg_one c
theorem numV_no {z : Str} (h : bareOk z.cps.toList = false) : numV z = .none := by
  unfold numV numL
  rw [h, Bool.false_and, if_neg (by decide)]
end Ey
namespace Ey
open PySem PySem.Spec PyProof.Rows L2
theorem okc_nat {l : List Nat} (h : l.all isDg = true) : ∀ c ∈ (numS ((NumText.digitsVal l : Nat) : Int)).cps.toList, c < 1000 := fun c hc => by
  rw [nat_back h] at hc
  split at hc
  · rw [List.mem_singleton.mp hc]
    decide
  · rename_i a r e
    rw [← e] at hc
    have := all_dg h c ((List.dropWhile_sublist _).subset hc)
    omega
theorem okc_val {l : List Nat} (h : bareOk l = true) : Okc (numS (valL l)) := fun c hc => by
  unfold bareOk at h
  rw [Bool.and_eq_true] at h
  cases l with
  | nil => cases h.1
  | cons a r =>
    by_cases ha : a = 45
    · subst ha
      have h2 : r.all isDg = true := h.2
      have hc : c ∈ (numS (-((NumText.digitsVal r : Nat) : Int))).cps.toList := hc
      cases ev : NumText.digitsVal r with
      | zero =>
        rw [ev] at hc
        exact okc_lit (z := numS (-((0 : Nat) : Int))) (by decide +kernel) c hc
      | succ m =>
        rw [ev, num_neg, ← ev] at hc
        rcases List.mem_cons.mp hc with rfl | hc
        · decide
        · exact okc_nat h2 c hc
    · have ed : digL (a :: r) = a :: r := by
        unfold digL
        split
        · rename_i h
          exact (ha (List.cons.inj h).1).elim
        · rfl
      have ev : valL (a :: r) = ((NumText.digitsVal (a :: r) : Nat) : Int) := by
        unfold valL
        split
        · rename_i h
          exact (ha (List.cons.inj h).1).elim
        · rfl
      rw [ed] at h
      rw [ev] at hc
      exact okc_nat h.2 c hc
end Ey
namespace Ey
open PySem
def nvD : PyData → PyData
  | .str t => numV t
  | x => x
end Ey
namespace Ey
open PySem
theorem nv_flat (z : Str) : flatD (numV z) = true := by
  unfold numV
  split <;> rfl
theorem nv_none (z : Str) : PyData.eqv (numV z) .none = !numL z.cps.toList := by
  unfold numV
  cases h : numL z.cps.toList with
  | true => simp [PyData.eqv]
  | false => simp [PyData.eqv]
theorem nv_val {z : Str} (h : numL z.cps.toList = true) : numV z = .int (valL z.cps.toList) := by
  unfold numV
  rw [if_pos h]
end Ey
namespace Ey
open PySem PySem.Spec PyProof.Rows L2
theorem pair_decide {p q r : Prop} [Decidable p] [Decidable q] [Decidable r] (h : p ↔ q ∧ r) : decide p = (decide q && decide r) := by
  rw [← Bool.decide_and]
  exact decide_eq_decide.mpr h
theorem apart_snoc {found : List Wl} {w : Wl} : apartB (.tuple ((found ++ [w]).map Wl.D)) = (apartB (.tuple (found.map Wl.D)) && (segB w.D && found.all fun v => decide (v.n ≠ w.n))) := by
  show (((found ++ [w]).map Wl.D).all segB && decide ((((found ++ [w]).map Wl.D).map wname).Nodup)) = ((found.map Wl.D).all segB && decide (((found.map Wl.D).map wname).Nodup) && (segB w.D && found.all fun v => decide (v.n ≠ w.n)))
  have e1 : ((found ++ [w]).map Wl.D).all segB = ((found.map Wl.D).all segB && segB w.D) := by
    rw [List.map_append, List.all_append]
    simp
  have e2 : (((found ++ [w]).map Wl.D).map wname).Nodup ↔ ((found.map Wl.D).map wname).Nodup ∧ (found.all fun v => decide (v.n ≠ w.n)) = true := by
    rw [List.map_append, List.map_append, List.nodup_append, List.all_eq_true]
    refine ⟨fun ⟨a, _, b⟩ => ⟨a, fun v hv => ?_⟩, fun ⟨a, b⟩ => ⟨a, by simp, fun x hx y hy => ?_⟩⟩
    · refine decide_eq_true fun z => ?_
      exact b (wname v.D) (List.mem_map_of_mem (List.mem_map_of_mem hv)) (wname w.D) (by simp) (by rw [wname_D, wname_D, z])
    · obtain ⟨d, hd, rfl⟩ := List.mem_map.mp hx
      obtain ⟨v, hv, rfl⟩ := List.mem_map.mp hd
      have ey : y = wname w.D := by simpa using hy
      subst ey
      intro z
      rw [wname_D, wname_D] at z
      exact of_decide_eq_true (b v hv) (Sum.inr.inj z)
  rw [e1, pair_decide e2, Bool.decide_eq_true]
  cases (found.map Wl.D).all segB <;> cases segB w.D <;> cases decide ((found.map Wl.D).map wname).Nodup <;> simp
theorem free_iff {wl : List Wl} : freeB wl = true ↔ wl.Pairwise clashOff := by
  unfold freeB
  rw [@decide_eq_true_iff _ (Classical.propDecidable _), List.pairwise_iff_getElem]
  refine ⟨fun h i j hi hj hij => ?_, fun h i j hij hj => ?_⟩
  · have := h i j hij hj
    rwa [clash_at hi hj] at this
  · rw [clash_at (by omega) hj]
    exact h i j (by omega) hj hij
theorem free_snoc {found : List Wl} {w : Wl} : freeB (found ++ [w]) = (freeB found && found.all fun v => !clashW v w) := by
  rw [Bool.eq_iff_iff, Bool.and_eq_true, free_iff, free_iff, List.pairwise_append, List.all_eq_true]
  refine ⟨fun ⟨a, _, b⟩ => ⟨a, fun v hv => ?_⟩, fun ⟨a, b⟩ => ⟨a, List.pairwise_singleton _ _, fun x hx y hy => ?_⟩⟩
  · have h : clashW v w = false := b v hv w (by simp)
    rw [h]
    rfl
  · have ey : y = w := by simpa using hy
    subst ey
    exact nb_t (b x hx)
theorem plan_snoc {found : List Wl} {w : Wl} (h : planB (.tuple (found.map Wl.D)) = true) (g : segB w.D = true) : planB (.tuple ((found ++ [w]).map Wl.D)) = fitsB found w := by
  unfold planB at h ⊢
  rw [wlOf_D] at h ⊢
  rw [Bool.and_eq_true] at h
  rw [apart_snoc, free_snoc, h.1, h.2, g, Bool.true_and, Bool.true_and, Bool.true_and]
  unfold fitsB
  rw [Bool.eq_iff_iff]
  simp only [Bool.and_eq_true, List.all_eq_true]
  exact ⟨fun z v hv => ⟨z.1 v hv, z.2 v hv⟩, fun z => ⟨fun v hv => (z v hv).1, fun v hv => (z v hv).2⟩⟩
theorem WOk.sz2 {w : Wl} (h : WOk w) : Sz (w.n.length + 9) 2 w.D := by
  have z0 : ∀ i : Int, i.natAbs < 2 ^ 40 → Sz 0 0 (.int i) := fun i h => sz_int (Nat.lt_of_lt_of_le h (Nat.pow_le_pow_right (by decide) (by decide)))
  have pr : ∀ i j : Int, i.natAbs < 2 ^ 40 → j.natAbs < 2 ^ 40 → Sz 2 1 (prD i j) := fun i j h h2 => ((sza_cons (z0 i h) (sza_cons (z0 j h2) sza_nil)).tuple).mono (by decide) (by decide)
  have zn : Sz w.n.length 0 (.str w.n) := sz_str (List.all_eq_true.mpr fun c hc => decide_eq_true (Nat.lt_trans (h.nm.ok c hc) (by decide))) (Nat.le_refl _)
  exact ((sza_cons (zn.mono (Nat.le_refl _) (Nat.zero_le 1)) (sza_cons (pr _ _ h.a h.b) (sza_cons (pr _ _ h.c h.d) sza_nil))).tuple).mono (by omega) (by decide)
/-- what is left to read -/
def left (ls : List Str) : Nat := (ls.map fun l => l.length + 1).sum
theorem left_split {z : Str} {c : Nat} : left (Txt.split z ⟨#[c]⟩) = z.length + 1 := by
  have e : Txt.join ⟨#[c]⟩ (Txt.split z ⟨#[c]⟩) = z := (StrLaws.glued_eq_join _ _).trans (StrLaws.join_split _ _)
  have e2 := join_cps ⟨#[c]⟩ (Txt.split z ⟨#[c]⟩)
  rw [e] at e2
  have ge : ∀ ys : List Str, ys ≠ [] → (jl [c] (ys.map (·.cps.toList))).length + 1 = left ys := by
    intro ys
    induction ys with
    | nil => intro h; exact (h rfl).elim
    | cons x r ih =>
      intro _
      cases r with
      | nil =>
        show x.cps.toList.length + 1 = x.length + 1 + 0
        rw [← strL]
      | cons y r =>
        have := ih (by simp)
        show (x.cps.toList ++ ([c] ++ jl [c] ((y :: r).map (·.cps.toList)))).length + 1 = x.length + 1 + left (y :: r)
        rw [List.length_append, List.length_append, ← strL, ← this]
        have h1 : [c].length = 1 := rfl
        omega
  have := ge _ (split_ne z ⟨#[c]⟩)
  rw [← this]
  have e3 : (jl (⟨#[c]⟩ : Str).cps.toList ((Txt.split z ⟨#[c]⟩).map (·.cps.toList))).length = z.length := by
    rw [← e2]
    exact Array.length_toList
  have e4 : (jl [c] ((Txt.split z ⟨#[c]⟩).map (·.cps.toList))).length = z.length := e3
  omega
theorem seg_name {l : Str} (h : segOk (Txt.split l (" " : Str)) = true) : (segWl (Txt.split l (" " : Str))).n.length ≤ l.length := by
  have hm : (segWl (Txt.split l (" " : Str))).n ∈ Txt.split l (" " : Str) := by
    unfold segOk at h
    rw [Bool.and_eq_true] at h
    obtain ⟨a, b, c, d, e, f, ews⟩ := sixW (of_decide_eq_true h.1)
    rw [ews]
    simp [segWl]
  rw [sp_is] at hm ⊢
  obtain ⟨a, b, e⟩ := split_part hm
  rw [strL, strL l, e, List.length_append, List.length_append]
  omega
end Ey
/-! ### lines bent -/
namespace Ey
open PySem PySem.Spec PyProof.Rows L2
def runC (n : Nat) : Nat → List Nat → Bool
  | cur, [] => decide (cur ≤ n)
  | cur, c :: r => if isDg c = true then runC n (cur + 1) r else decide (cur ≤ n) && runC n 0 r
theorem runC_is {n : Nat} : ∀ (l pre : List Nat), pre.all isDg = true → runC n pre.length l = true → RunL n (pre ++ l)
  | [], pre, _, h => by
    rw [List.append_nil]
    exact run_short (of_decide_eq_true h)
  | c :: r, pre, hp, h => by
    unfold runC at h
    by_cases hc : isDg c = true
    · rw [if_pos hc] at h
      have := runC_is r (pre ++ [c]) (by rw [List.all_append, hp]; simp [hc]) (by rw [List.length_append]; exact h)
      rwa [List.append_assoc] at this
    · rw [if_neg hc, Bool.and_eq_true] at h
      exact run_sep (run_short (of_decide_eq_true h.1)) (runC_is r [] rfl h.2) (by simpa using hc)
def litB (n m : Nat) (z : Str) : Bool := (z.cps.toList.all fun c => decide (c < 1000)) && (decide (z.length ≤ n) && runC m 0 z.cps.toList)
theorem tx_lit {n m : Nat} {z : Str} (h : litB n m z = true) : Tx n m z := by
  unfold litB at h
  rw [Bool.and_eq_true, Bool.and_eq_true] at h
  exact ⟨okc_lit h.1, of_decide_eq_true h.2.1, runC_is _ [] rfl h.2.2⟩
def cutK (ks : List Str) (lo hi : Option Int) : List Str := (ks.drop (HT.sIx ks.length 0 lo)).take (HT.sIx ks.length ks.length hi - HT.sIx ks.length 0 lo)
theorem cut_map (ks : List Str) (lo hi : Option Int) : cutD (ks.map .str) lo hi = (cutK ks lo hi).map .str := by
  unfold cutD cutK
  rw [List.length_map, List.map_take, List.map_drop]
theorem cutK_sub (ks : List Str) (lo hi : Option Int) : (cutK ks lo hi).Sublist ks := (List.take_sublist _ _).trans (List.drop_sublist _ _)
theorem cutK_len (ks : List Str) (lo hi : Option Int) : (cutK ks lo hi).length ≤ ks.length := (cutK_sub ks lo hi).length_le
theorem left_sub {ks ls : List Str} (h : ks.Sublist ls) : left ks ≤ left ls := by
  unfold left
  induction h with
  | slnil => exact Nat.le_refl _
  | cons a _ ih =>
    rw [List.map_cons, List.sum_cons]
    omega
  | cons_cons a _ ih =>
    rw [List.map_cons, List.sum_cons, List.map_cons, List.sum_cons]
    omega
theorem left_app (ks ls : List Str) : left (ks ++ ls) = left ks + left ls := by
  unfold left
  rw [List.map_append, List.sum_append]
theorem left_sum (ks : List Str) : (ks.map (·.length)).sum + ks.length = left ks := by
  unfold left
  induction ks with
  | nil => rfl
  | cons x ks ih =>
    rw [List.map_cons, List.map_cons, List.sum_cons, List.sum_cons, List.length_cons, ← ih]
    omega
theorem join_len (ks : List Str) (c : Nat) : (Txt.join ⟨#[c]⟩ ks).length ≤ left ks := by
  rw [strL, join_cps]
  show (jl [c] (ks.map (·.cps.toList))).length ≤ _
  induction ks with
  | nil => exact Nat.zero_le _
  | cons x r ih =>
    cases r with
    | nil =>
      show x.cps.toList.length ≤ x.length + 1 + 0
      rw [← strL]
      omega
    | cons y r =>
      show (x.cps.toList ++ ([c] ++ jl [c] ((y :: r).map (·.cps.toList)))).length ≤ x.length + 1 + left (y :: r)
      rw [List.length_append, List.length_append, ← strL]
      have h1 : [c].length = 1 := rfl
      omega
theorem tx_join {n m : Nat} {ks : List Str} {c : Nat} (hc : isDg c = false) (hc2 : c < 1000) (h : ∀ k ∈ ks, Okc k ∧ RunL m k.cps.toList) (hl : left ks ≤ n) : Tx n m (Txt.join ⟨#[c]⟩ ks) := by
  refine ⟨fun d hd => ?_, Nat.le_trans (join_len ks c) hl, ?_⟩
  · rw [join_cps] at hd
    rcases jl_mem hd with hd | ⟨y, hy, hd⟩
    · have : d = c := by simpa using hd
      rw [this]
      exact hc2
    · obtain ⟨k, hk, rfl⟩ := List.mem_map.mp hy
      exact (h k hk).1 d hd
  · rw [join_cps]
    exact run_jl hc fun y hy => by
      obtain ⟨k, hk, rfl⟩ := List.mem_map.mp hy
      exact (h k hk).2
theorem Tx.cut {n m : Nat} {z : Str} (h : Tx n m z) (lo hi : Option Int) : Tx n m (cutS z lo hi) := by
  refine h.part (a := z.cps.toList.take (HT.sIx z.length 0 lo)) (b := (z.cps.toList.drop (HT.sIx z.length 0 lo)).drop (HT.sIx z.length z.length hi - HT.sIx z.length 0 lo)) ?_
  rw [cutS_list, List.append_assoc, List.take_append_drop, List.take_append_drop]
theorem app_list (a b : Str) : (a ++ b).cps.toList = a.cps.toList ++ b.cps.toList := by
  show (a.cps ++ b.cps).toList = _
  rw [Array.toList_append]
theorem tx_app {n m n' m' : Nat} {a b : Str} (h : Tx n m a) (g : Tx n' m' b) : Tx (n + n') (m + m') (a ++ b) := by
  refine ⟨fun c hc => ?_, ?_, ?_⟩
  · rw [app_list] at hc
    rcases List.mem_append.mp hc with hc | hc
    · exact h.ok c hc
    · exact g.ok c hc
  · rw [PySem.strLen_append]
    exact Nat.add_le_add h.len g.len
  · rw [app_list]
    exact run_app h.run g.run
theorem strs_of {ls : List Str} : ∀ {ys : List PyData}, (∀ y ∈ ys, ∃ l ∈ ls, y = PyData.str l) → ∃ ks : List Str, ys = ks.map .str ∧ ks.length = ys.length ∧ ∀ k ∈ ks, k ∈ ls
  | [], _ => ⟨[], rfl, rfl, fun k hk => absurd hk List.not_mem_nil⟩
  | y :: ys, h => by
    obtain ⟨l, hl, rfl⟩ := h y List.mem_cons_self
    obtain ⟨ks, rfl, e, hk⟩ := strs_of fun z hz => h z (List.mem_cons_of_mem _ hz)
    exact ⟨l :: ks, rfl, by rw [List.length_cons, List.length_cons, e], fun k hk2 => by
      rcases List.mem_cons.mp hk2 with rfl | hk2
      · exact hl
      · exact hk k hk2⟩
/-- strings of a list of the law -/
def LitX (n m : Nat) (x : PyData) : Prop := ∃ w : Str, x = .str w ∧ Tx n m w
theorem lit_mk {n m : Nat} {z : Str} (h : litB n m z = true) : LitX n m (.str z) := ⟨z, rfl, tx_lit h⟩
end Ey
namespace Ey
open PySem PySem.Spec PyProof.Rows L2
/-- the names of drawn plans and of such with walls put between -/
def NmK (n : Str) : Prop := n ∈ tenS ∨ ∃ j, j < 2 ∧ n = newS j
theorem tens_lit : ∀ n ∈ tenS, litB 10 2 n = true := by decide +kernel
theorem news_lit : litB 10 2 (newS 0) = true ∧ litB 10 2 (newS 1) = true := by decide +kernel
theorem nmk_tx {n : Str} (h : NmK n) : Tx 10 2 n := by
  rcases h with h | ⟨j, hj, rfl⟩
  · exact tx_lit (tens_lit n h)
  · have h3 : j = 0 ∨ j = 1 := by omega
    rcases h3 with rfl | rfl
    · exact tx_lit news_lit.1
    · exact tx_lit news_lit.2
theorem nums_fin : ∀ k : Fin 121, litB 10 2 (numS (((k.val : Nat) : Int) - 60)) = true := by decide +kernel
theorem num_tx {i : Int} (h : i.natAbs ≤ 60) : Tx 10 2 (numS i) := by
  have z := nums_fin ⟨(i + 60).toNat, by omega⟩
  have e : ((((i + 60).toNat : Nat) : Int) - 60) = i := by omega
  rw [e] at z
  exact tx_lit z
theorem line_tx {w : Wl} (h : w.Real) (hn : NmK w.n) : Tx 66 2 (lineS w) := by
  refine ⟨okc_line h, line_len h, ?_⟩
  unfold lineS
  rw [join_cps, sp_is]
  refine run_jl (by decide) fun y hy => ?_
  obtain ⟨p, hp, rfl⟩ := List.mem_map.mp hy
  simp only [wordsS, List.mem_cons, List.not_mem_nil, or_false] at hp
  rcases hp with rfl | rfl | rfl | rfl | rfl | rfl
  · exact (tx_lit (n := 10) (m := 2) (z := ("wall" : Str)) (by decide +kernel)).run
  · exact (nmk_tx hn).run
  · exact (num_tx h.a).run
  · exact (num_tx h.b).run
  · exact (num_tx h.c).run
  · exact (num_tx h.d).run
/-- what a reader tells is of bounded size -/
theorem readL_ok : ∀ (ls : List Str) (found : List Wl) (k b : Nat), (∀ l ∈ ls, Tx 200 12 l) → SzA b 2 (found.map Wl.D) → b + 12 * left ls ≤ 2412 → onRead (readL found k ls) (fun wl => SzA 2412 2 (wl.map Wl.D)) (fun j => j ≤ k + ls.length)
  | [], found, k, b, _, hb, hl => hb.mono (by omega) (Nat.le_refl _)
  | l :: ls, found, k, b, ht, hb, hl => by
    unfold readL
    have lc : left (l :: ls) = l.length + 1 + left ls := by
      unfold left
      rw [List.map_cons, List.sum_cons]
    rw [lc] at hl
    cases h : lineOk found l with
    | false =>
      rw [if_neg (by decide)]
      exact Nat.le_add_right _ _
    | true =>
      rw [if_pos rfl]
      unfold lineOk at h
      rw [Bool.and_eq_true] at h
      have tl := ht l List.mem_cons_self
      have wk := seg_ok h.1 fun w hw => by
        rw [sp_is] at hw
        exact tl.word hw
      have nl := seg_name h.1
      have sz : SzA (b + (segWl (Txt.split l (" " : Str))).n.length + 10) 2 ((found ++ [segWl (Txt.split l (" " : Str))]).map Wl.D) := by
        rw [List.map_append]
        exact (sza_app hb (sza_one wk.sz2)).mono (by omega) (Nat.le_refl _)
      have ih := readL_ok ls (found ++ [segWl (Txt.split l (" " : Str))]) (k + 1) _ (fun x hx => ht x (List.mem_cons_of_mem _ hx)) sz (by omega)
      revert ih
      generalize readL (found ++ [segWl (Txt.split l (" " : Str))]) (k + 1) ls = r
      cases r with
      | inl j =>
        intro ih
        have ih : j ≤ k + 1 + ls.length := ih
        show j ≤ k + (ls.length + 1)
        omega
      | inr wl => exact fun ih => ih
theorem readT_ok {z : Str} (hz : Tx 200 12 z) : onRead (readT z) (fun wl => SzA 2412 2 (wl.map Wl.D)) (fun j => j ≤ 300) := by
  unfold readT
  by_cases h : z = ("" : Str)
  · rw [if_pos h]
    exact (sza_nil (m := 2)).mono (Nat.zero_le _) (Nat.le_refl _)
  · rw [if_neg h]
    have hl := hz.len
    have parts : ∀ w ∈ Txt.split z ("\n" : Str), Tx 200 12 w := fun w hw => by
      rw [nl_is] at hw
      exact hz.word hw
    have lf : left (Txt.split z ("\n" : Str)) ≤ 201 := by
      rw [nl_is, left_split]
      omega
    have sl : (Txt.split z ("\n" : Str)).length ≤ 201 := by
      rw [nl_is]
      exact Nat.le_trans split_len (by omega)
    have := readL_ok (Txt.split z ("\n" : Str)) [] 1 0 parts sza_nil (by omega)
    revert this
    generalize readL [] 1 (Txt.split z ("\n" : Str)) = r
    cases r with
    | inl j =>
      intro ih
      have ih : j ≤ 1 + (Txt.split z ("\n" : Str)).length := ih
      show j ≤ 300
      omega
    | inr wl => exact fun ih => ih
end Ey
namespace Ey
open PySem PySem.Spec PyProof.Rows L2
/-! ### the text -/
def topS (i : Nat) : Stmt := PySem.Challenge.pw_eyeorder_k09_texts_of_plans_changed.main.body.getD i (.Pass ⟨0, 0, 0, 0⟩)
abbrev sDeck : Stmt := topS 20
abbrev sDraw : Stmt := topS 21
abbrev sPick : Stmt := topS 22
theorem scDeck : FnScope ["script", "seed", "mixed", "cell"] ["script", "seed"] (defScope sDeck) := ⟨rfl, rfl, rfl, by decide +kernel, rfl, by decide +kernel, by decide +kernel⟩
theorem scDraw : FnScope ["deck", "many", "cell", "figure"] ["deck", "many"] (defScope sDraw) := ⟨rfl, rfl, rfl, by decide +kernel, rfl, by decide +kernel, by decide +kernel⟩
theorem scPick : FnScope ["deck", "some"] ["deck", "some"] (defScope sPick) := ⟨rfl, rfl, rfl, by decide +kernel, rfl, by decide +kernel, by decide +kernel⟩

section
variable {P : Program} {w : World} {K : PySem.W.Frag} {mg : Str → Option Value} {base : Heap}
def spDraw : Sp := fun vs H Q _ => ∃ (d l : Addr) (many : Int), vs = [.ref d, .int many] ∧ 0 < many ∧ many < 10 ^ 18 ∧ Deck d l H ∧ ∀ r H', 0 ≤ r → r < many → Deck d l H' → Kp d l H H' → Q (.int r) H'
theorem ok_draw {f : Addr} {fd : FuncData} {k : Nat} (F : Fun K "_law_draw" "_law_draw" sDraw f fd) (T : Blt mg) : FnOk P w K mg base CX0 (k + 1) f fd ["deck", "many"] spDraw := by
  refine F.ok scDraw (fun vs H Q E h => ?_) (fun cdv A outer s H vs Q E hr h => ?_)
  · obtain ⟨d, l, m, rfl, _⟩ := h
    rfl
  · obtain ⟨d, l, many, rfl, h0, h1, D, q⟩ := h
    have hu := hu_of hr
    have gt {e : Expr} {i : Nat} {tb tc : TE} : True := trivial
    refine ⟨_, pss_cons (ps_dput hu (pv 0) pe_str (pe_op op_add (pe_dget hu (pv 0) pe_str (fun _ _ => rfl)) pe_int) rfl)
      (Evl.pss_cut (ps_if (pt_cmpR (op_neD hr.units) (pe_dget hu (pv 0) pe_str (fun _ _ => rfl)) (pe_lst pa_nil) (nomark _))
        (pss_cons (ps_set (i := 2) scDraw.nd rfl (.inl rfl) (pe_bm0 PySem.F.plainAttrs_list PySem.F.slot_list_pop PySem.F.type_list_pop mt_pop (pe_dget hu (pv 0) pe_str (fun _ _ => rfl))))
        (pss_cons (ps_if (pt_cmpR op_ge (pv 2) (pe_op op_pow pe_int pe_int) (nomark _))
          (pss_cons (ps_expr (pe_bm PySem.F.plainAttrs_list PySem.F.slot_list_append PySem.F.type_list_append mt_append (pe_dget hu (pv 0) pe_str (fun _ _ => rfl))
            (pa_cons (pe_op op_fdivW (pv 2) (pe_callB (call_max2 rfl) (by rfl) T.max (by decide +kernel) (pa_cons pe_int (pa_cons (pv 1) pa_nil)))) pa_nil)))
          (pss_one (ps_ret (pe_op op_mod (pe_callTy call_int1 (by rfl) T.int (by decide +kernel) (pa_cons (pv 2) pa_nil)) (pv 1)))))
          pss_nil)
        (pss_one (ps_dput hu (pv 0) pe_str (pe_op op_mod (pe_callTy call_int1 (by rfl) T.int (by decide +kernel) (pa_cons
          (pe_op op_add (pe_op op_add (pe_op op_mul (pe_dget hu (pv 0) pe_str (fun _ _ => rfl)) pe_int) (pe_op op_mod (pe_callTy call_int1 (by rfl) T.int (by decide +kernel) (pa_cons (pv 2) pa_nil)) pe_int)) pe_int) pa_nil)) pe_int) rfl))))
        pss_nil)
      (pss_cons (ps_set (i := 3) scDraw.nd rfl (.inl rfl) (pe_op op_mod (pe_callTy call_int1 (by rfl) T.int (by decide +kernel) (pa_cons
          (pe_op op_add (pe_dget hu (pv 0) pe_str (fun _ _ => rfl)) (pe_op op_mul pe_int (pe_dget hu (pv 0) pe_str (fun _ _ => rfl)))) pa_nil)) pe_int))
      (pss_cons (ps_set (i := 3) scDraw.nd rfl (.inl rfl) (pe_op op_mod (pe_callTy call_int1 (by rfl) T.int (by decide +kernel) (pa_cons
          (pe_op op_add (pe_op op_add (pe_op op_mul (pv 3) (pv 3)) (pe_op op_mul pe_int (pe_dget hu (pv 0) pe_str (fun _ _ => rfl)))) pe_int) pa_nil)) pe_int))
      (pss_cons (ps_set (i := 3) scDraw.nd rfl (.inl rfl) (pe_op op_mod (pe_callTy call_int1 (by rfl) T.int (by decide +kernel) (pa_cons
          (pe_op op_add (pe_op op_mul (pv 3) pe_int) pe_int) pa_nil)) pe_int))
      (pss_one (ps_ret (pe_op op_mod (pe_callTy call_int1 (by rfl) T.int (by decide +kernel) (pa_cons (pe_op op_fdiv (pv 3) pe_int) pa_nil)) (pv 1)))))))), ?_⟩
    obtain ⟨ns, m, k, hl, e1, e2⟩ := D.ex
    have nld : l ≠ d := ne_of e2 e1 (by intro z; cases z)
    -- deck['draws'] = ..
    refine ⟨.ref d, rfl, d, .int k, rfl, g_draws e1, k, 1, rfl, rfl, .ref d, rfl, d, _, rfl, p_draws e1, ?_⟩
    have a1 : Kp d l H (upd H d (.dK (dkv l m (k + 1)))) := (Kp.refl H).d
    have b1 : (upd H d (.dK (dkv l m (k + 1)))) d = some (.dK (dkv l m (k + 1))) := upd_same
    have b2 : (upd H d (.dK (dkv l m (k + 1)))) l = some (.lst (ns.map V.int)) := by rw [upd_ne nld]; exact e2
    generalize upd H d (.dK (dkv l m (k + 1))) = H1 at a1 b1 b2
    refine ⟨fun σ' H' => ∃ c, σ' = [some (.ref d), some (.int many), c, none] ∧ Deck d l H' ∧ Kp d l H H', ?_, ?_⟩
    · -- if deck['left'] != []
      refine ⟨.ref d, rfl, d, .ref l, rfl, g_left b1, Nat.zero_le _, fun p np => ⟨_, _, Dp.lst (SqL.of (by rw [upd_ne (ne_of_none b2 np)]; exact b2)) (dp_ints ns), Dp.lst (SqL.of upd_same) .nil, shaped_ints ns, shaped_ints [], _, rfl, ?_⟩⟩
      have a2 := a1.new (o := .lst []) np
      have c1 : (upd H1 p (.lst [])) d = some (.dK (dkv l m (k + 1))) := by rw [upd_ne (ne_of_none b1 np)]; exact b1
      have c2 : (upd H1 p (.lst [])) l = some (.lst (ns.map V.int)) := by rw [upd_ne (ne_of_none b2 np)]; exact b2
      generalize upd H1 p (.lst []) = H2 at a2 c1 c2
      rw [eqv_nil]
      rcases nil_or_last ns with rfl | ⟨r, x, rfl⟩
      · exact iteF ⟨none, rfl, ⟨[], m, k + 1, hl, c1, c2⟩, a2⟩
      have hr1 : r.length ≤ 62 := by
        rw [List.length_append] at hl
        exact Nat.le_of_succ_le_succ hl
      rw [show (!(r ++ [x]).isEmpty) = true by cases r <;> rfl]
      refine iteT ?_
      -- cell = deck['left'].pop()
      have em : (r ++ [x]).map V.int = r.map V.int ++ [.int x] := by rw [List.map_append] <;> rfl
      rw [em] at c2
      refine ⟨.ref d, rfl, d, .ref l, rfl, g_left c1, .inl ⟨rfl, _, SqL.of c2⟩, l, _, .int x, rfl, rfl, c2, ?_, ?_⟩
      · rw [List.length_append, List.length_singleton, Nat.add_sub_cancel, List.getElem?_append_right (Nat.le_refl _), Nat.sub_self] <;> rfl
      rw [List.dropLast_concat]
      have a3 := a2.l (o := .lst (r.map V.int))
      have d1 : (upd H2 l (.lst (r.map V.int))) d = some (.dK (dkv l m (k + 1))) := by rw [upd_ne nld.symm]; exact c1
      have d2 : (upd H2 l (.lst (r.map V.int))) l = some (.lst (r.map V.int)) := upd_same
      generalize upd H2 l (.lst (r.map V.int)) = H3 at a3 d1 d2
      -- if cell >= 10 ** 18
      refine ⟨.int x, rfl, 10, 18, rfl, rfl, ⟨by decide, by decide, by decide⟩, x, _, rfl, rfl, _, rfl, ite2 (fun hx => ?_) (fun hx => ?_)⟩
      · have hmx : (0 : Int) < (if many > 2 then many else 2) := by split <;> omega
        have hmb : (if many > 2 then many else 2 : Int).natAbs < 2 ^ 60 := by
          have : (10 : Int) ^ 18 = 1000000000000000000 := by decide
          split <;> omega
        refine ⟨.ref d, rfl, d, .ref l, rfl, g_left d1, .inl ⟨rfl, _, SqL.of d2⟩, .int x, rfl, .int many, rfl, 2, many, rfl, x, _, rfl, rfl, wide_div hmx hmb (by decide) (by decide), l, _, _, rfl, rfl, d2, ?_, ?_⟩
        · rw [List.length_map]
          exact small1000 (by omega)
        · refine ⟨.int x, rfl, .inl ⟨x, rfl, .int many, rfl, x, many, rfl, rfl, h0, ?_⟩⟩
          refine q _ _ (Int.emod_nonneg _ (by omega)) (Int.emod_lt_of_pos _ h0) ⟨r ++ [x / (if many > 2 then many else 2)], m, k + 1, ?_, ?_, ?_⟩ a3.l
          · rw [List.length_append]
            exact Nat.succ_le_succ hr1
          · rw [upd_ne nld.symm]
            exact d1
          · rw [upd_same, List.map_append] <;> rfl
      · -- deck['mixed'] = ..
        refine ⟨.ref d, rfl, d, .int m, rfl, g_mixed d1, m, 39373, rfl, rfl, .inr (by decide), .int x, rfl, .inl ⟨x, rfl, x, 2147483629, rfl, rfl, dv (by decide), _, _, rfl, rfl, _, _, rfl, rfl, .inl ⟨_, rfl, _, _, rfl, rfl, dv (by decide), .ref d, rfl, d, _, rfl, p_mixed d1, ?_⟩⟩⟩
        exact ⟨_, rfl, ⟨r, _, k + 1, by omega, upd_same, by rw [upd_ne nld]; exact d2⟩, a3.d⟩
    · rintro σ' H' ⟨c, rfl, D2, a2⟩
      obtain ⟨ns2, m2, k2, hl2, c1, c2⟩ := D2.ex
      -- the figures
      refine ⟨.ref d, rfl, d, .int m2, rfl, g_mixed c1, .ref d, rfl, d, .int k2, rfl, g_draws c1, _, _, rfl, rfl, .inl (by decide), _, _, rfl, rfl, .inl ⟨_, rfl, _, _, rfl, rfl, dv (by decide), ?_⟩⟩
      refine ⟨_, rfl, _, rfl, _, _, rfl, rfl, .inl ⟨by show -(2 ^ 64 : Int) < (m2 + 31337 * k2) % 2147483647; omega, by show (m2 + 31337 * k2) % 2147483647 < (2 ^ 64 : Int); omega⟩, .ref d, rfl, d, .int k2, rfl, g_draws c1, _, _, rfl, rfl, .inl (by decide), _, _, rfl, rfl, _, _, rfl, rfl, .inl ⟨_, rfl, _, _, rfl, rfl, dv (by decide), ?_⟩⟩
      refine ⟨_, rfl, _, _, rfl, rfl, .inr (by decide), _, _, rfl, rfl, .inl ⟨_, rfl, _, _, rfl, rfl, dv (by decide), ?_⟩⟩
      refine ⟨_, rfl, _, _, rfl, rfl, ⟨by decide, by decide⟩, .inl ⟨_, rfl, .int many, rfl, _, many, rfl, rfl, h0, ?_⟩⟩
      exact q _ _ (Int.emod_nonneg _ (by omega)) (Int.emod_lt_of_pos _ h0) ⟨ns2, m2, k2, hl2, c1, c2⟩ a2

theorem fk_draw (S : At K mg "_law_draw" sDraw) (T : Blt mg) : Fk P w K mg base CX0 1 "_law_draw" ["deck", "many"] spDraw := by
  obtain ⟨f, fd, F, g⟩ := S.ex
  exact ⟨f, fd, ok_draw F T, F.binds fun _ _ _ _ _ _ us hl => (match us, hl with | [_, _], _ => rfl), g, F.kp, fun_lk F⟩

/-! ### one of a list -/
def spPick : Sp := fun vs H Q _ => ∃ (d l a : Addr) (xs : List V), vs = [.ref d, .ref a] ∧ Deck d l H ∧ H a = some (.lst xs) ∧ a ≠ d ∧ a ≠ l ∧ 0 < xs.length ∧ xs.length ≤ 1000 ∧
  ∀ (i : Nat) (v : V) (H' : Hp), xs[i]? = some v → Deck d l H' → Kp d l H H' → Q v H'
theorem fk_pick (S : At K mg "_law_pick" sPick) (T : Blt mg) (G : Fk P w K mg base CX0 1 "_law_draw" ["deck", "many"] spDraw) : Fk P w K mg base CX0 2 "_law_pick" ["deck", "some"] spPick := by
  obtain ⟨f, fd, F, g⟩ := S.ex
  refine ⟨f, fd, F.ok scPick (fun vs H Q E h => ?_) (fun cdv A outer s H vs Q E hr h => ?_), F.binds fun _ _ _ _ _ _ us hl => (match us, hl with | [_, _], _ => rfl), g, F.kp, fun_lk F⟩
  · obtain ⟨d, l, a, xs, rfl, _⟩ := h
    rfl
  · obtain ⟨d, l, a, xs, rfl, D, ea, nd, nl, h0, h1, q⟩ := h
    refine ⟨_, pss_one (ps_ret (pe_ix ix_list (pv 1) (pe_cl G hr (by rfl) pass0 (pa_cons (pv 0) (pa_cons (pe_callB call_len_seq (by rfl) T.len PySem.boot_len (pa_cons (pv 1) pa_nil)) pa_nil))) (fun _ _ => rfl))), ?_⟩
    refine ⟨_, rfl, _, rfl, _, rfl, a, xs, rfl, .inl (SqL.of ea), d, l, _, rfl, by omega, lt18 (by omega), D, fun r H' r0 r1 D' k => ?_⟩
    have hr : r.toNat < xs.length := by omega
    refine ⟨a, xs, r, xs[r.toNat], rfl, rfl, SqL.of (k _ _ ea nd nl), at_of (j := r.toNat) (by omega) (List.getElem?_eq_getElem hr), q _ _ H' (List.getElem?_eq_getElem hr) D' k⟩

/-! ### the deck is made -/
theorem cut_ints (ns : List Int) (lo hi : Option Int) : ∃ ms : List Int, cutV (ns.map V.int) lo hi = ms.map V.int ∧ ms.length ≤ ns.length := by
  refine ⟨(ns.drop (HT.sIx ns.length 0 lo)).take (HT.sIx ns.length ns.length hi - HT.sIx ns.length 0 lo), ?_, ?_⟩
  · unfold cutV
    rw [List.length_map, List.map_take, List.map_drop]
  · rw [List.length_take, List.length_drop]
    omega
def spDeck (K : PySem.W.Frag) : Sp := fun vs H Q _ => ∃ (a : Addr) (ns : List Int) (seed : Int), vs = [.ref a, .int seed] ∧ SqL K H a (ns.map V.int) ∧ ns.length ≤ 63 ∧
  ∀ d l H', Deck d l H' → Evl.Ex H H' → H d = none → H l = none → Q (.ref d) H'
theorem merge_deck {l : Addr} {m k : Int} : mergeK [] (dkv l m k) = dkv l m k := by
  have n1 : valV [((Sum.inr ("left" : Str) : Key), V.ref l)] (.inr ("mixed" : Str)) = none := (valV_neg nLM).trans valV_nil
  have n2 : valV [((Sum.inr ("left" : Str) : Key), V.ref l), (.inr ("mixed" : Str), .int m)] (.inr ("draws" : Str)) = none := (valV_neg nLD).trans ((valV_neg nMD).trans valV_nil)
  show putK (putK (putK [] (Sum.inr ("left" : Str) : Key) (V.ref l)) (Sum.inr ("mixed" : Str)) (V.int m)) (Sum.inr ("draws" : Str)) (V.int k) = _
  rw [show putK ([] : List (Key × V)) (Sum.inr ("left" : Str)) (V.ref l) = [((Sum.inr ("left" : Str) : Key), V.ref l)] from rfl, putK_new _ n1]
  show putK [((Sum.inr ("left" : Str) : Key), V.ref l), ((Sum.inr ("mixed" : Str) : Key), V.int m)] (Sum.inr ("draws" : Str)) (V.int k) = _
  rw [putK_new _ n2] <;> rfl
theorem fk_deck (S : At K mg "_law_deck" sDeck) (T : Blt mg) : Fk P w K mg base CX0 1 "_law_deck" ["script", "seed"] (spDeck K) := by
  obtain ⟨f, fd, F, g⟩ := S.ex
  refine ⟨f, fd, F.ok scDeck (fun vs H Q E h => ?_) (fun cdv A outer s H vs Q E hr h => ?_), F.binds fun _ _ _ _ _ _ us hl => (match us, hl with | [_, _], _ => rfl), g, F.kp, fun_lk F⟩
  · obtain ⟨a, ns, m, rfl, _⟩ := h
    rfl
  · obtain ⟨a, ns, m, rfl, ea, h1, q⟩ := h
    refine ⟨_, pss_cons (ps_set (i := 2) scDeck.nd rfl (.inl rfl) (pv 1))
      (pss_cons (ps_for PassesOwn.never rfl (pi_list (pe_slice sl_list (pv 0) po_none (po_some pe_int))) (pg_name (i := 3) scDeck.nd rfl (.inl rfl))
        (pss_one (ps_set (i := 2) scDeck.nd rfl (.inl rfl) (pe_op op_mod (pe_callTy call_int1 (by rfl) T.int (by decide +kernel) (pa_cons
          (pe_op op_add (pe_op op_add (pe_op op_mul (pv 2) pe_int) (pe_op op_mod (pe_callTy call_int1 (by rfl) T.int (by decide +kernel) (pa_cons (pv 3) pa_nil)) pe_int)) pe_int) pa_nil)) pe_int))))
      (pss_one (ps_ret (pe_disp (pps_cons pe_str (pe_revL (pe_callTy call_list_of (by rfl) T.list (by decide +kernel) (pa_cons (pe_slice sl_list (pv 0) po_none (po_some pe_int)) pa_nil)))
        (pps_cons pe_str (pv 2) (pps_cons pe_str pe_int pps_nil))) (by rfl) (by rfl) (fun z => by cases z) (by decide))))), ?_⟩
    refine ⟨_, rfl, ?_⟩
    -- for cell in script[:63]
    obtain ⟨ms, em, hm⟩ := cut_ints ns none (some 63)
    refine ⟨_, rfl, 63, rfl, a, _, rfl, ea, fun p np => ?_⟩
    rw [em]
    have x1 : Evl.Ex H (upd H p (.lst (ms.map V.int))) := Evl.Ex.new np
    have b1 : (upd H p (.lst (ms.map V.int))) p = some (.lst (ms.map V.int)) := upd_same
    generalize upd H p (.lst (ms.map V.int)) = H1 at x1 b1
    refine ⟨p, rfl, ⟨_, SqL.of b1⟩, for_list (xs := ms.map V.int) (fun _ σ H' => H' = H1 ∧ ∃ (z : Int) (c : Option V), σ = [some (.ref a), some (.int m), some (.int z), c]) ⟨rfl, m, none, rfl⟩ (fun i σ H' _ h => ?_) (fun i x σ H' hx h => ?_) (fun σ H' h => ?_)⟩
    · obtain ⟨rfl, _⟩ := h
      exact SqL.of b1
    · obtain ⟨rfl, z, c, rfl⟩ := h
      obtain ⟨y, hy, rfl⟩ : ∃ y, ms[i]? = some y ∧ x = .int y := by
        rw [List.getElem?_map] at hx
        cases e : ms[i]? with
        | none => rw [e] at hx; cases hx
        | some y => rw [e] at hx; cases hx; exact ⟨y, rfl, rfl⟩
      refine ⟨_, rfl, _, _, rfl, rfl, .inr (by decide), _, rfl, .inl ⟨_, rfl, _, _, rfl, rfl, dv (by decide), _, _, rfl, rfl, _, _, rfl, rfl, .inl ⟨_, rfl, _, _, rfl, rfl, dv (by decide), ?_⟩⟩⟩
      exact ⟨rfl, _, _, rfl⟩
    · obtain ⟨rfl, z, c, rfl⟩ := h
      -- the dict
      refine fun t nt => ?_
      have x2 : Evl.Ex H (upd H' t (.dK [])) := x1.trans (Evl.Ex.new nt)
      have b2 : (upd H' t (.dK [])) t = some (.dK []) := upd_same
      have nH : H t = none := Evl.fresh_back x1 nt
      generalize upd H' t (.dK []) = H2 at x2 b2
      refine ⟨_, rfl, 63, rfl, a, _, rfl, Evl.ex_l x2 ea, fun p2 np2 => ?_⟩
      rw [em]
      have x3 : Evl.Ex H (upd H2 p2 (.lst (ms.map V.int))) := x2.trans (Evl.Ex.new np2)
      have b3 : (upd H2 p2 (.lst (ms.map V.int))) t = some (.dK []) := by rw [upd_ne (ne_of_none b2 np2)]; exact b2
      have b4 : (upd H2 p2 (.lst (ms.map V.int))) p2 = some (.lst (ms.map V.int)) := upd_same
      generalize upd H2 p2 (.lst (ms.map V.int)) = H3 at x3 b3 b4
      refine ⟨p2, _, rfl, .inl (SqL.of b4), fun p3 np3 => ?_⟩
      have x4 : Evl.Ex H (upd H3 p3 (.lst (ms.map V.int))) := x3.trans (Evl.Ex.new np3)
      have b5 : (upd H3 p3 (.lst (ms.map V.int))) t = some (.dK []) := by rw [upd_ne (ne_of_none b3 np3)]; exact b3
      have b6 : (upd H3 p3 (.lst (ms.map V.int))) p3 = some (.lst (ms.map V.int)) := upd_same
      generalize upd H3 p3 (.lst (ms.map V.int)) = H4 at x4 b5 b6
      refine ⟨p3, _, rfl, SqL.of b6, fun p4 np4 => ?_⟩
      rw [← List.map_reverse]
      have x5 : Evl.Ex H (upd H4 p4 (.lst (ms.reverse.map V.int))) := x4.trans (Evl.Ex.new np4)
      have b7 : (upd H4 p4 (.lst (ms.reverse.map V.int))) t = some (.dK []) := by rw [upd_ne (ne_of_none b5 np4)]; exact b5
      have b8 : (upd H4 p4 (.lst (ms.reverse.map V.int))) p4 = some (.lst (ms.reverse.map V.int)) := upd_same
      have nH4 : H p4 = none := Evl.fresh_back x4 np4
      generalize upd H4 p4 (.lst (ms.reverse.map V.int)) = H5 at x5 b7 b8
      refine ⟨_, rfl, b7, dkv p4 z 0, rfl, by show 3 ≤ 15; decide, ?_⟩
      rw [merge_deck]
      exact q t p4 _ ⟨ms.reverse, z, 0, by rw [List.length_reverse]; omega, upd_same, by rw [upd_ne (ne_of b8 b7 (by intro z; cases z))]; exact b8⟩ (x5.mut nH) nH nH4
end
end Ey
/-! the end of a row whose law asks what runs around it (repr does) -/
namespace Ey
open PySem PySem.Spec PyProof.Rows L2
/-- fn_of, where it is called from A alone -/
theorem fn_at {CX : CXT} {P : Program} {w : World} {K : PySem.W.Frag} {mg : Str → Option Value} {base : Heap} {A : Around} {k : Nat} {f : Addr} {x qual : Str} {st : Stmt} {fd : FuncData} {N ps : List Str} (F : Fun K x qual st f fd) (S : FnScope N ps (defScope st)) (hr : Room (k + 1) A)
    {outer : List PySem.Env} {s : Shared} {H : Hp} {args : Args} {us : List Value} {vs : List V} {Q : VK} {E : XK} (hl : vs.length = ps.length) (e0 : Env0 P w K mg base A outer s H) (hb : BindsTo s fd args (ps.zip us)) (r : Vals vs us)
    (body : ∀ cdv : Value, ∃ t, PSs (cxOf CX P w K mg base N qual (defScope st) f cdv A outer s H E).nox (defBody st) t ∧ t { nx := fun _ H' => Q .non H', rt := Q } (start N vs) H) : codeAny (model P w) A (.call (.ref f) args) (CR CX outer P w H s Q E) s := by
  obtain ⟨oc, od, kV, doc, pm, an, cdv, ct, osl, rfl, lk, hcd⟩ := F.ex
  have hK : K.In s.heap := e0.mod.kin.keeps fun b o e => (e0.bs b o e).1
  have hlim : s.heap.NoLimit := e0.mod.nolimit.keeps fun b o e => (e0.bs b o e).1
  have hpar : ∀ y ∈ ps.zip us, (defScope st).names.lookup y.1 = some .local ∨ ((defScope st).names.lookup y.1 = some .cell ∧ ((cellsFrom (s.heap.objs.size + 1) (defScope st).names []).lookup y.1).isSome = true) := by
    rintro ⟨n, v⟩ hy
    rcases S.par n (List.of_mem_zip hy).1 with q | q
    · exact Or.inl q
    · exact Or.inr ⟨q, PySem.W.cellsFrom_some _ _ _ (Or.inl q)⟩
  refine codeAny_call_function hr.depth (hK _ _ lk) rfl S.co S.gen rfl (PySem.W.codeRec_of hK hcd) (hb _ _ _ _ ?_)
  refine wpAny_newFunctionEnv_cells S.kind hpar fun env he s1 y => ?_
  subst he
  refine ⟨hlim.keeps y.toInCall.keep, codeAny_func ?_⟩
  obtain ⟨t, ht, hq⟩ := body cdv
  have I := inv_start (CX := CX) (E := E) S hr.hd e0 hl r y
  refine wpAny_mono (ht.nox.run [] s1 (start N vs) H _ I hq) (fun fl s' hs => ?_) fun e s' hs => hs
  have done : ∀ {σ' : L2.St} {H' : Hp} {v : V} {u : Value}, Inv (cxOf CX P w K mg base N qual (defScope st) f cdv A outer s H E) [] σ' H' s' → RelV v u → Q v H' → CE outer P w H s Q u s' :=
    fun {σ' H' v u} J rv q => ⟨v, H', J.os, J.bare, J.base, J.hok, rv, q⟩
  cases fl with
  | ret u =>
    obtain ⟨v, σ', H', J, rv, q⟩ := hs
    exact done J rv q
  | next =>
    obtain ⟨σ', H', J, q⟩ := hs
    exact done (v := V.non) (u := Value.none) J rfl q
  | brk =>
    obtain ⟨_, _, _, q⟩ := hs
    exact q.elim
  | cont =>
    obtain ⟨_, _, _, q⟩ := hs
    exact q.elim

/-- what is to be shown of law: called as the row calls it, it answers True -/
def LawOk (P : Program) (w : World) (K : PySem.W.Frag) (mg : Str → Option Value) (base : Heap) (fa : Addr) : Prop :=
  ∀ (s : Shared) (H : Hp) (a : Addr) (ns : List Int), Env0 P w K mg base callerA [] s H → SqL K H a (ns.map V.int) → ns.length ≤ 63 →
    codeAny (model P w) callerA (.call (.ref fa) ⟨[.ref a], []⟩) (CR CX0 [] P w H s (fun v _ => v = .bl true) E0) s
theorem law_go {P : Program} {w : World} {K : PySem.W.Frag} {mg mb : Str → Option Value} {fa a : Addr} {s₁ : Shared} {vs : List Value} {ns : List Int}
    (KX : K.In s₁.heap) (hns : s₁.heap.Ns mainGlobals mg) (hb : s₁.heap.Ns builtinsNs mb) (hbb : ∀ x : Str, x ≠ "__name__" → mb x = bootBuiltins x) (hlim : s₁.heap.NoLimit) (hg : s₁.gens = #[])
    (ha : s₁.heap.get? a = some { cls := .type "list", data := .seq vs.toArray }) (hi : IntsAre vs ns) (hl : ns.length ≤ 63)
    (F : ∀ base : Heap, K.In base → base.Ns mainGlobals mg → LawOk P w K mg base fa) :
    codeAny (model P w) callerA (.call (.ref fa) ⟨[.ref a], []⟩) (fun r s' => r = .ok (.ret (.bool true)) ∧ OldK s₁.heap s'.heap ∧ s'.os = s₁.os ∧ AllBare s'.gens) s₁ := by
  have rv := vals_ints hi
  have lenV := hi.length
  have hsz : ns.length ≤ sizeLine := Nat.le_trans hl (by decide)
  have core : ∀ H : Hp, Only H → SqL K H a (ns.map V.int) → HOk P w H s₁.heap → (∀ b, H b ≠ none → b = a) → (H a ≠ none → K.lookup a = none) →
      codeAny (model P w) callerA (.call (.ref fa) ⟨[.ref a], []⟩) (fun r s' => r = .ok (.ret (.bool true)) ∧ OldK s₁.heap s'.heap ∧ s'.os = s₁.os ∧ AllBare s'.gens) s₁ := by
    intro H only hS hok only_a hKa
    have out : ∀ {b : Addr} {o : Obj} {es : Array DictEntry} {ep : Nat}, s₁.heap.get? b = some o → o.data = .dict es ep → H b = none := by
      intro b o es ep e d
      cases q : H b with
      | none => rfl
      | some u =>
        obtain rfl : b = a := only_a b (by rw [q]; exact fun z => nomatch z)
        rw [ha] at e
        cases e
        have z : Data.seq vs.toArray _ = Data.dict es ep := d
        cases z
    have ns_of : ∀ {b : Addr} {m : Str → Option Value}, s₁.heap.Ns b m → (hidT s₁.heap H).Ns b m := fun {b m} ⟨o, es, ep, e, d, r⟩ => ⟨o, es, ep, hidT_get e (out e d), d, r⟩
    have kin : K.In (hidT s₁.heap H) := by
      intro b o e
      refine hidT_get (KX b o e) ?_
      cases q : H b with
      | none => rfl
      | some u =>
        obtain rfl : b = a := only_a b (by rw [q]; exact fun z => nomatch z)
        rw [hKa (by rw [q]; exact fun z => nomatch z)] at e
        cases e
    have md : Mod K mg (hidT s₁.heap H) := ⟨kin, ns_of hns, ⟨mb, ns_of hb, hbb⟩, by obtain ⟨mc, z1, z2⟩ := hlim; exact ⟨mc, ns_of z1, z2⟩⟩
    have e0 : Env0 P w K mg (hidT s₁.heap H) callerA [] s₁ H :=
      ⟨rfl, md, fun b o e => of_hidT e, Nat.le_of_eq (hidT_size _ _), trivial, fun b hm => absurd (show b ∈ ([] : List Addr) from hm) (by simp), hok, .of_eq hg⟩
    refine codeAny_mono (F _ kin (ns_of hns) s₁ H a ns e0 hS hl) fun r s' h => ?_
    cases r with
    | error e => exact (show False from h).elim
    | ok fl =>
      cases fl with
      | next => exact (show False from h).elim
      | brk => exact (show False from h).elim
      | cont => exact (show False from h).elim
      | ret u =>
        obtain ⟨v, H', os, bare, un, hok', r', q⟩ := h
        obtain rfl : v = .bl true := q
        obtain rfl : u = Value.bool true := r'
        refine ⟨rfl, OldK.of_keep fun b o e => ?_, os, bare⟩
        cases q : H b with
        | none => exact un.keep b o e q (fun z => absurd (show b ∈ ([] : List Addr) from z) (by simp)) (by simp)
        | some u =>
          rcases only b with z | ⟨ob, xs, z⟩
          · rw [q] at z
            cases z
          · obtain ⟨e1, _⟩ := hok b _ z
            obtain ⟨e2, _⟩ := hok' b _ (un.frzs b ob _ z)
            rw [e] at e1
            cases e1
            exact e2
  cases hk : K.lookup a with
  | some o =>
    have e := KX a o hk
    rw [ha] at e
    cases e
    exact core (fun _ => none) (fun _ => Or.inl rfl) (Or.inr ⟨_, vs.toArray, _, hk, rfl, rfl, rfl, by rw [List.size_toArray, lenV]; exact hsz, by simpa using rv⟩)
      (fun b u z => by cases (show (none : Option HO) = some u from z)) (fun b z => absurd rfl z) fun z => absurd rfl z
  | none =>
    have at_a : (fun b => if b = a then some (HO.frz { cls := .type "list", data := .seq vs.toArray } (.lst (ns.map V.int))) else none : Hp) a = some (.frz { cls := .type "list", data := .seq vs.toArray } (.lst (ns.map V.int))) := if_pos rfl
    refine core (fun b => if b = a then some (.frz { cls := .type "list", data := .seq vs.toArray } (.lst (ns.map V.int))) else none) (fun b => ?_) (Or.inl (Or.inr ⟨_, at_a⟩)) (fun b u z => ?_) (fun b z => ?_) fun _ => hk
    · by_cases hb : b = a
      · exact Or.inr ⟨_, _, if_pos hb⟩
      · exact Or.inl (if_neg hb)
    · by_cases hb : b = a
      · subst hb
        cases (if_pos rfl).symm.trans z
        exact ⟨ha, by rw [List.length_map]; exact hsz, vs, _, rv, ha⟩
      · cases (if_neg hb).symm.trans z
    · exact Decidable.byContradiction fun hb => z (if_neg hb)
/-- walk_of, by LawOk -/
theorem walk_at {l : PySem.W.OpenLaw} {q : Program} {loose : List Str} {XP : (Str → Option Value) → Heap → Prop} {YP : World → Heap → Prop} {d : DefRec} {K : Params → PySem.W.Frag}
    (hn : l.most = some 63) (hdf : d.params.defaults = []) (hY : ∀ (w : World) (h : Heap), YP w h → (K w.params).In h)
    (F : ∀ (w : World) (mg : Str → Option Value) (fa : Addr) (h : Heap), (K w.params).In h → h.Ns mainGlobals mg → mg d.name = some (.ref fa) → ∀ base : Heap, (K w.params).In base → base.Ns mainGlobals mg → LawOk l.prog w (K w.params) mg base fa) :
    PySem.W.WalkO q loose XP YP l.row.toRowW d [] (fun f vs => PySem.call f vs) := by
  refine Att.attach_call hn hdf fun w s₀ s₁ mg mb fa o pm cd doc a vs ns G Y ho hd hcd hmg hobj hints hlen hg => ?_
  have KX := hY w _ Y
  exact law_go KX G.T.g G.T.b G.T.builtins G.T.nolimit hg hobj hints hlen (F w mg fa _ KX G.T.g hmg)
end Ey
namespace Ey
open PySem PySem.Spec PyProof.Rows L2
/-! ### the deck's promises over data; a law's own start -/
def m__law_draw : Md := fun ds Q _ => onOne ds fun x => onInt x fun many => 0 < many ∧ many < 10 ^ 18 ∧ ∀ r : Int, 0 ≤ r → r < many → Q (.int r)
section
variable {P : Program} {w : World} {K : PySem.W.Frag} {mg : Str → Option Value} {base : Heap} {cl : Str → Addr}
theorem fk__law_draw (S : At K mg "_law_draw" sDraw) (T : Blt mg) : Fk P w K mg base CX0 1 "_law_draw" ["deck", "many"] (spD true cl m__law_draw) :=
  (fk_draw S T).weak fun vs H Q E h => by
    obtain ⟨f, ds, Qd, us, ok, rfl, _, _, hv, dd, m, c⟩ := h
    obtain ⟨d, l, eD, rfl⟩ := hv
    replace m := inv_one m
    obtain ⟨x, rfl, m⟩ := m
    replace m := inv_int m
    obtain ⟨many, rfl, h0, h1, m⟩ := m
    cases dd with
    | cons a b =>
      cases b
      cases a
      refine ⟨d, l, many, rfl, h0, h1, ok.dk d l eD, fun r H' r0 r1 D' k => c _ H' _ ⟨fun a o e n => ?_, fun d' l' e' => ?_⟩ (.int r) (m r r0 r1)⟩
      · exact k a o e (n d l eD).1 (n d l eD).2
      · rw [eD] at e'
        cases e'
        exact D'
/-- the law's frame behind its first statement -/
theorem law_data {fa : Addr} {fd : FuncData} {st : Stmt} {N : List Str} {lv : Nat} {seed : Int} (cl : Str → Addr) (F : Fun K "law" "law" st fa fd) (bL : Binds K fd ["script"] []) (sc : FnScope N ["script"] (defScope st)) (hN : 2 ≤ N.length) (hroom : Room (lv + 1) callerA)
    (hb : ∀ (cdv : Value) (s : Shared) (H : Hp), Room lv (callerA.deeper (envOfC "law" (defScope st) s.heap.objs.size fa cdv)) →
      ∃ ts, PSs (cxOf CX0 P w K mg base N "law" (defScope st) fa cdv callerA [] s H E0).nox (defBody st) (tSeq (tAsg (tCall (spDeck K) [] E0 (tCons (tVar 0) (tCons (tC (.int seed)) tNil))) (gName 1)) ts) ∧
        ∀ f : Fx, f.cl = cl → ∃ t, SS f ts t ∧ t (dends fun x => x = .bool true) (.any :: .dk :: List.replicate (N.length - 2) .any)) : LawOk P w K mg base fa := by
  intro s H a ns e0 hS hl
  refine fn_at (k := lv) F sc hroom (vs := [.ref a]) rfl e0 (bL s [.ref a] (e0.mod.kin.keeps fun b o e => (e0.bs b o e).1) rfl) (.cons rfl .nil) fun cdv => ?_
  obtain ⟨ts, p, h⟩ := hb cdv s H (Room.deeper hroom _)
  refine ⟨_, p, ?_⟩
  obtain ⟨m, hm⟩ : ∃ m, N.length = m + 2 := ⟨N.length - 2, by omega⟩
  have e : L2.start N [V.ref a] = some (.ref a) :: none :: List.replicate m none := by
    unfold L2.start
    rw [hm]
    rfl
  rw [e]
  refine ⟨_, rfl, a, ns, _, rfl, hS, hl, fun d l H0 D0 x0 _ _ => ?_⟩
  have e2 : List.set (some (V.ref a) :: none :: List.replicate m none) 1 (some (V.ref d)) = some (.ref a) :: some (.ref d) :: List.replicate m none := rfl
  show ts _ (List.set (some (V.ref a) :: none :: List.replicate m none) 1 (some (V.ref d))) H0
  rw [e2]
  let f : Fx := ⟨H0, fun b => b ≠ d ∧ b ≠ l, some (d, l), cl, E0, nothing⟩
  have dk : f.deck H0 := fun d' l' e' => by
    cases e'
    exact D0
  obtain ⟨t, hs, q⟩ := h f rfl
  have ok : f.Ok := ⟨fun b n => deck_some D0 n, fun b h d' l' e' => by
    cases e'
    exact h, dk, fun c x a v H' h => h.elim⟩
  rw [hm, Nat.add_sub_cancel] at q
  refine hs [] _ H0 _ _ _ ⟨ok, Go.refl dk, by simp, fun a h => (by cases h), fun i s e => ?_, fun i j xs ys e1 => ?_⟩ q ⟨fun L' σ' H' ρ' _ r q => (by cases q), fun _ _ _ _ _ _ q => q.elim, fun _ _ _ _ _ _ q => q.elim, fun v H' x _ dv q => ?_⟩
  · match i, e with
    | 0, e =>
      cases e
      exact ⟨_, rfl, trivial⟩
    | 1, e =>
      cases e
      exact ⟨_, rfl, d, l, rfl, rfl⟩
    | i + 2, e =>
      have e : (List.replicate m Sl.any)[i]? = some s := by simpa using e
      rw [List.getElem?_replicate] at e
      by_cases hi : i < m
      · rw [if_pos hi] at e
        cases e
        exact ⟨none, by simp [hi], trivial⟩
      · rw [if_neg hi] at e
        cases e
  · match i, e1 with
    | 0, e => cases e
    | 1, e => cases e
    | i + 2, e =>
      have e : (List.replicate m Sl.any)[i]? = some (.own xs) := by simpa using e
      rw [List.getElem?_replicate] at e
      by_cases hi : i < m
      · rw [if_pos hi] at e
        cases e
      · rw [if_neg hi] at e
        cases e
  · subst q
    cases dv
    rfl
end
end Ey
namespace Ey
open PySem PySem.Spec PyProof.Rows L2
/-! ### is_integer -/
abbrev s_is_integer : Stmt := topS 7
theorem sc_is_integer : FnScope ["thing"] ["thing"] (defScope s_is_integer) := ⟨rfl, rfl, rfl, by decide +kernel, rfl, by decide +kernel, by decide +kernel⟩
def m_is_integer : Md := fun ds Q _ => onOne ds fun x => Q (.bool (isInt x))
theorem fk_is_integer {P : Program} {w : World} {K : PySem.W.Frag} {mg : Str → Option Value} {base : Heap} {cl : Str → Addr} (S : At K mg "is_integer" s_is_integer) (T : Blt mg) :
    Fk P w K mg base CX0 1 "is_integer" ["thing"] (spD false cl m_is_integer) := by
  refine fk_mk0 (n := 1) S sc_is_integer (fun f fd F => F.binds fun _ _ _ _ _ _ us hl => (match us, hl with | [_], _ => rfl)) (fun ds Q E h => by
    exact (by first | (replace h := inv_one h; obtain ⟨_, rfl, _⟩ := h; rfl) | (replace h := inv_two h; obtain ⟨_, _, rfl, _⟩ := h; rfl) | (obtain ⟨_, rfl, _⟩ := h; rfl) | (obtain ⟨_, _, rfl, _⟩ := h; rfl) | (obtain ⟨_, _, _, rfl, _⟩ := h; rfl) | (obtain ⟨_, _, _, _, rfl, _⟩ := h; rfl) | (obtain ⟨_, _, _, _, _, rfl, _⟩ := h; rfl) | (obtain ⟨_, _, _, _, _, _, rfl, _⟩ := h; rfl) | (obtain ⟨_, _, _, _, _, _, _, rfl, _⟩ := h; rfl) | (obtain ⟨_, _, _, _, _, _, _, _, rfl, _⟩ := h; rfl) | (obtain ⟨_, _, _, _, _, _, _, _, _, rfl, _⟩ := h; rfl))) rfl fun fa cdv A outer s H E hr => ⟨_, (pss_one (ps_ret (pe_and (pe_callB (qc_isi (K := K) rfl) (by rfl) T.isinst (by decide +kernel) (pa_cons (pv 0) (pa_cons (pe_bltn (v := .ty "int") (by rfl) T.int (by decide +kernel) rfl) pa_nil))) (pe_one (pe_not (pe_callB (qc_isi (K := K) rfl) (by rfl) T.isinst (by decide +kernel) (pa_cons (pv 0) (pa_cons (pe_bltn (v := .ty "bool") (by rfl) T.bool (by decide +kernel) rfl) pa_nil)))))))), fun f hcl => ⟨_, (ss_ret (se_and (se_isi isi_int se_var) (se_not (se_isi isi_bool se_var)))), fun ds Qd h => ?_⟩⟩
  replace h := inv_one h
  obtain ⟨x, rfl, q⟩ := h
  cases x <;> exact q
/-! ### is_tuple_of_integers -/
abbrev s_is_tuple_of_integers : Stmt := topS 8
theorem sc_is_tuple_of_integers : FnScope ["thing", "many", "n"] ["thing", "many"] (defScope s_is_tuple_of_integers) := ⟨rfl, rfl, rfl, by decide +kernel, rfl, by decide +kernel, by decide +kernel⟩
def m_is_tuple_of_integers : Md := fun ds Q _ => onTwo ds fun x y => onInt y fun n => Short x ∧ Q (.bool (isInts n x))
theorem fk_is_tuple_of_integers {P : Program} {w : World} {K : PySem.W.Frag} {mg : Str → Option Value} {base : Heap} {cl : Str → Addr} (S : At K mg "is_tuple_of_integers" s_is_tuple_of_integers) (T : Blt mg) (G_is_integer : Fk P w K mg base CX0 1 "is_integer" ["thing"] (spD false cl m_is_integer)) :
    Fk P w K mg base CX0 2 "is_tuple_of_integers" ["thing", "many"] (spD false cl m_is_tuple_of_integers) := by
  refine fk_mk0 (n := 2) S sc_is_tuple_of_integers (fun f fd F => F.binds fun _ _ _ _ _ _ us hl => (match us, hl with | [_, _], _ => rfl)) (fun ds Q E h => by
    exact (by first | (replace h := inv_one h; obtain ⟨_, rfl, _⟩ := h; rfl) | (replace h := inv_two h; obtain ⟨_, _, rfl, _⟩ := h; rfl) | (obtain ⟨_, rfl, _⟩ := h; rfl) | (obtain ⟨_, _, rfl, _⟩ := h; rfl) | (obtain ⟨_, _, _, rfl, _⟩ := h; rfl) | (obtain ⟨_, _, _, _, rfl, _⟩ := h; rfl) | (obtain ⟨_, _, _, _, _, rfl, _⟩ := h; rfl) | (obtain ⟨_, _, _, _, _, _, rfl, _⟩ := h; rfl) | (obtain ⟨_, _, _, _, _, _, _, rfl, _⟩ := h; rfl) | (obtain ⟨_, _, _, _, _, _, _, _, rfl, _⟩ := h; rfl) | (obtain ⟨_, _, _, _, _, _, _, _, _, rfl, _⟩ := h; rfl))) rfl fun fa cdv A outer s H E hr => ⟨_, (pss_one (ps_ret (pe_and (pe_callB (qc_isi (K := K) rfl) (by rfl) T.isinst (by decide +kernel) (pa_cons (pv 0) (pa_cons (pe_bltn (v := .ty "tuple") (by rfl) T.tuple (by decide +kernel) rfl) pa_nil))) (pe_and (pe_cmpR (qo_eq (K := K) rfl hr.units) (pe_callB (qc_len (K := K) rfl) (by rfl) T.len (by decide +kernel) (pa_cons (pv 0) pa_nil)) (pv 1) (nomark _)) (pe_one (pe_callB (qc_all (K := K) rfl rfl) (by rfl) T.all (by decide +kernel) (pa_cons (pe_lc (own := [("n", 2)]) rfl sc_is_tuple_of_integers.nd (pi_any (K := K) rfl (pv 0)) (blkOk_by (own := [("n", 2)]) (N := ["thing", "many", "n"]) (sc := defScope s_is_tuple_of_integers) (by decide +kernel)) (fun _ _ _ _ _ => (pg_name (i := 2) sc_is_tuple_of_integers.nd rfl (Or.inl rfl))) (fun _ _ _ _ _ => pts_nil) (fun _ _ _ _ _ => (pe_cl G_is_integer (hr.mono (by decide : 1 ≤ 1)) (by rfl) pass0 (pa_cons (pv 2) pa_nil)))) pa_nil))))))), fun f hcl => ⟨_, (ss_ret (se_and (se_isi isi_tuple se_var) (se_and (se_op s2_eq (se_cb sn_len (sa_cons se_var sa_nil)) se_var) (se_cb sn_all (sa_cons (se_own (seo_lc (si_any se_var) sg_name (by decide) st_yes (se_callF hcl (sa_cons se_var sa_nil)))) sa_nil))))), fun ds Qd h => ?_⟩⟩
  replace h := inv_two h
  obtain ⟨x, y, rfl, h⟩ := h
  replace h := inv_int h
  obtain ⟨n, rfl, hs, q⟩ := h
  cases x with
  | tuple ds =>
    refine ⟨rfl, rfl, iteB_i (fun h => ?_) (fun h => ?_)⟩
    · refine ⟨hs, comp_map (fun x => .bool (isInt x)) ds [] (fun x _ k hk => hk) (bools ?_)⟩
      have e : isInts n (.tuple ds) = ds.all isInt := by
        rw [isInts_tup, show (((ds.length : Nat) : Int) == n) = true from h]
        rfl
      rw [← e]
      exact q
    · have e : isInts n (.tuple ds) = false := by
        rw [isInts_tup, show (((ds.length : Nat) : Int) == n) = false from h]
        rfl
      rw [e] at q
      exact q
  | _ => exact q
/-! ### turn -/
abbrev s_turn : Stmt := topS 16
theorem sc_turn : FnScope ["p", "q", "r"] ["p", "q", "r"] (defScope s_turn) := ⟨rfl, rfl, rfl, by decide +kernel, rfl, by decide +kernel, by decide +kernel⟩
def m_turn : Md := fun ds Q _ => ∃ a b c d e f : Int, ds = [prD a b, prD c d, prD e f] ∧ Sm a b ∧ Sm c d ∧ Sm e f ∧ Q (.int (turnI a b c d e f))
theorem fk_turn {P : Program} {w : World} {K : PySem.W.Frag} {mg : Str → Option Value} {base : Heap} {cl : Str → Addr} (S : At K mg "turn" s_turn) (T : Blt mg) :
    Fk P w K mg base CX0 1 "turn" ["p", "q", "r"] (spD false cl m_turn) := by
  refine fk_mk0 (n := 3) S sc_turn (fun f fd F => F.binds fun _ _ _ _ _ _ us hl => (match us, hl with | [_, _, _], _ => rfl)) (fun ds Q E h => by
    obtain ⟨_, _, _, _, _, _, rfl, _⟩ := h
    rfl) rfl fun fa cdv A outer s H E hr => ⟨_, (pss_one (ps_ret (pe_op op_sub (pe_op op_mulW (pe_op op_sub (qe_ix (K := K) rfl (pv 1) pe_int) (qe_ix (K := K) rfl (pv 0) pe_int)) (pe_op op_sub (qe_ix (K := K) rfl (pv 2) pe_int) (qe_ix (K := K) rfl (pv 0) pe_int))) (pe_op op_mulW (pe_op op_sub (qe_ix (K := K) rfl (pv 1) pe_int) (qe_ix (K := K) rfl (pv 0) pe_int)) (pe_op op_sub (qe_ix (K := K) rfl (pv 2) pe_int) (qe_ix (K := K) rfl (pv 0) pe_int)))))), fun f hcl => ⟨_, (ss_ret (se_op s2_sub (se_op s2_mul (se_op s2_sub (se_op s2_ix se_var se_int) (se_op s2_ix se_var se_int)) (se_op s2_sub (se_op s2_ix se_var se_int) (se_op s2_ix se_var se_int))) (se_op s2_mul (se_op s2_sub (se_op s2_ix se_var se_int) (se_op s2_ix se_var se_int)) (se_op s2_sub (se_op s2_ix se_var se_int) (se_op s2_ix se_var se_int))))), fun ds Qd h => ?_⟩⟩
  obtain ⟨a, b, c, d, e, f, rfl, ha, hb, hc, q⟩ := h
  exact ⟨wm (df_lt hb.1 ha.1) (df_lt hc.2 ha.2), wm (df_lt hb.2 ha.2) (df_lt hc.1 ha.1), q⟩
/-! ### separates -/
abbrev s_separates : Stmt := topS 15
theorem sc_separates : FnScope ["p", "q", "r", "s"] ["p", "q", "r", "s"] (defScope s_separates) := ⟨rfl, rfl, rfl, by decide +kernel, rfl, by decide +kernel, by decide +kernel⟩
def m_separates : Md := fun ds Q _ => ∃ a b c d e f g h : Int, ds = [prD a b, prD c d, prD e f, prD g h] ∧ Sm a b ∧ Sm c d ∧ Sm e f ∧ Sm g h ∧ Q (.bool (decide (turnI a b c d e f * turnI a b c d g h < 0)))
theorem fk_separates {P : Program} {w : World} {K : PySem.W.Frag} {mg : Str → Option Value} {base : Heap} {cl : Str → Addr} (S : At K mg "separates" s_separates) (T : Blt mg) (G_turn : Fk P w K mg base CX0 1 "turn" ["p", "q", "r"] (spD false cl m_turn)) :
    Fk P w K mg base CX0 2 "separates" ["p", "q", "r", "s"] (spD false cl m_separates) := by
  refine fk_mk0 (n := 4) S sc_separates (fun f fd F => F.binds fun _ _ _ _ _ _ us hl => (match us, hl with | [_, _, _, _], _ => rfl)) (fun ds Q E h => by
    obtain ⟨_, _, _, _, _, _, _, _, rfl, _⟩ := h
    rfl) rfl fun fa cdv A outer s H E hr => ⟨_, (pss_one (ps_ret (pe_cmpR op_lt (pe_op op_mulW (pe_cl G_turn (hr.mono (by decide : 1 ≤ 1)) (by rfl) pass0 (pa_cons (pv 0) (pa_cons (pv 1) (pa_cons (pv 2) pa_nil)))) (pe_cl G_turn (hr.mono (by decide : 1 ≤ 1)) (by rfl) pass0 (pa_cons (pv 0) (pa_cons (pv 1) (pa_cons (pv 3) pa_nil))))) pe_int (nomark _)))), fun f hcl => ⟨_, (ss_ret (se_op s2_lt (se_op s2_mul (se_callF hcl (sa_cons se_var (sa_cons se_var (sa_cons se_var sa_nil)))) (se_callF hcl (sa_cons se_var (sa_cons se_var (sa_cons se_var sa_nil))))) se_int)), fun ds Qd h => ?_⟩⟩
  obtain ⟨a, b, c, d, e, f, g, h, rfl, ha, hb, hc, hd, q⟩ := h
  exact ⟨a, b, c, d, e, f, rfl, ha, hb, hc, a, b, c, d, g, h, rfl, ha, hb, hd, wm (turn_lt ha hb hc) (turn_lt ha hb hd), q⟩
/-! ### clash -/
abbrev s_clash : Stmt := topS 14
theorem sc_clash : FnScope ["one", "other", "_", "p", "q", "r", "s"] ["one", "other"] (defScope s_clash) := ⟨rfl, rfl, rfl, by decide +kernel, rfl, by decide +kernel, by decide +kernel⟩
def m_clash : Md := fun ds Q _ => ∃ (n m : Str) (a b c d e f g h : Int), ds = [wallD n a b c d, wallD m e f g h] ∧ Sm a b ∧ Sm c d ∧ Sm e f ∧ Sm g h ∧ Q (.bool (clashB a b c d e f g h))
theorem fk_clash {P : Program} {w : World} {K : PySem.W.Frag} {mg : Str → Option Value} {base : Heap} {cl : Str → Addr} (S : At K mg "clash" s_clash) (T : Blt mg) (G_separates : Fk P w K mg base CX0 2 "separates" ["p", "q", "r", "s"] (spD false cl m_separates)) (G_turn : Fk P w K mg base CX0 1 "turn" ["p", "q", "r"] (spD false cl m_turn)) :
    Fk P w K mg base CX0 3 "clash" ["one", "other"] (spD false cl m_clash) := by
  refine fk_mk0 (n := 2) S sc_clash (fun f fd F => F.binds fun _ _ _ _ _ _ us hl => (match us, hl with | [_, _], _ => rfl)) (fun ds Q E h => by
    obtain ⟨_, _, _, _, _, _, _, _, _, _, rfl, _⟩ := h
    rfl) rfl fun fa cdv A outer s H E hr => ⟨_, (pss_cons (ps_asg (pv 0) (qg_tup (K := K) (n := 3) rfl rfl (pgs_cons (pg_name (i := 2) sc_clash.nd rfl (.inl rfl)) (pgs_cons (pg_name (i := 3) sc_clash.nd rfl (.inl rfl)) (pgs_cons (pg_name (i := 4) sc_clash.nd rfl (.inl rfl)) pgs_nil)))))
      (pss_cons (ps_asg (pv 1) (qg_tup (K := K) (n := 3) rfl rfl (pgs_cons (pg_name (i := 2) sc_clash.nd rfl (.inl rfl)) (pgs_cons (pg_name (i := 5) sc_clash.nd rfl (.inl rfl)) (pgs_cons (pg_name (i := 6) sc_clash.nd rfl (.inl rfl)) pgs_nil)))))
      (pss_cons (ps_if (pt_chain (qo_eq (K := K) rfl hr.units) (qo_eq (K := K) rfl hr.units) (pe_cl G_turn (hr.mono (by decide : 1 ≤ 2)) (by rfl) pass0 (pa_cons (pv 3) (pa_cons (pv 4) (pa_cons (pv 5) pa_nil)))) (pe_cl G_turn (hr.mono (by decide : 1 ≤ 2)) (by rfl) pass0 (pa_cons (pv 3) (pa_cons (pv 4) (pa_cons (pv 6) pa_nil)))) pe_int) (pss_one (ps_ret (pe_cmpR (qo_ltP (K := K) rfl hr.units) (pe_callB (qc_maxP (K := K) rfl rfl hr.units) (by rfl) T.max (by decide +kernel) (pa_cons (pe_callB (qc_minP (K := K) rfl rfl hr.units) (by rfl) T.min (by decide +kernel) (pa_cons (pv 3) (pa_cons (pv 4) pa_nil))) (pa_cons (pe_callB (qc_minP (K := K) rfl rfl hr.units) (by rfl) T.min (by decide +kernel) (pa_cons (pv 5) (pa_cons (pv 6) pa_nil))) pa_nil))) (pe_callB (qc_minP (K := K) rfl rfl hr.units) (by rfl) T.min (by decide +kernel) (pa_cons (pe_callB (qc_maxP (K := K) rfl rfl hr.units) (by rfl) T.max (by decide +kernel) (pa_cons (pv 3) (pa_cons (pv 4) pa_nil))) (pa_cons (pe_callB (qc_maxP (K := K) rfl rfl hr.units) (by rfl) T.max (by decide +kernel) (pa_cons (pv 5) (pa_cons (pv 6) pa_nil))) pa_nil))) (nomark _)))) pss_nil)
      (pss_one (ps_ret (pe_and (pe_cl G_separates (hr.mono (by decide : 2 ≤ 2)) (by rfl) pass0 (pa_cons (pv 3) (pa_cons (pv 4) (pa_cons (pv 5) (pa_cons (pv 6) pa_nil))))) (pe_one (pe_cl G_separates (hr.mono (by decide : 2 ≤ 2)) (by rfl) pass0 (pa_cons (pv 5) (pa_cons (pv 6) (pa_cons (pv 3) (pa_cons (pv 4) pa_nil)))))))))))), fun f hcl => ⟨_, (ss_seq (ss_asg se_var (sg_tup (sgs_cons sg_name (sgs_cons sg_name (sgs_cons sg_name sgs_nil)))))
      (ss_seq (ss_asg se_var (sg_tup (sgs_cons sg_name (sgs_cons sg_name (sgs_cons sg_name sgs_nil)))))
      (ss_seq (ss_if (st_test (se_chain s2_eq s2_eq (se_callF hcl (sa_cons se_var (sa_cons se_var (sa_cons se_var sa_nil)))) (se_callF hcl (sa_cons se_var (sa_cons se_var (sa_cons se_var sa_nil)))) se_int)) (ss_ret (se_op s2_ltP (se_cb sn_maxP (sa_cons (se_cb sn_minP (sa_cons se_var (sa_cons se_var sa_nil))) (sa_cons (se_cb sn_minP (sa_cons se_var (sa_cons se_var sa_nil))) sa_nil))) (se_cb sn_minP (sa_cons (se_cb sn_maxP (sa_cons se_var (sa_cons se_var sa_nil))) (sa_cons (se_cb sn_maxP (sa_cons se_var (sa_cons se_var sa_nil))) sa_nil))))) ss_next)
      (ss_ret (se_and (se_callF hcl (sa_cons se_var (sa_cons se_var (sa_cons se_var (sa_cons se_var sa_nil))))) (se_callF hcl (sa_cons se_var (sa_cons se_var (sa_cons se_var (sa_cons se_var sa_nil)))))))))), fun ds Qd h => ?_⟩⟩
  obtain ⟨n, m, a, b, c, d, e, f, g, h, rfl, ha, hb, hc, hd, q⟩ := h
  have one : (turnI a b c d e f == turnI a b c d g h && turnI a b c d g h == 0) = true → Qd (.bool (ltP (mxP (mnP (a, b) (c, d)) (mnP (e, f) (g, h))).1 (mxP (mnP (a, b) (c, d)) (mnP (e, f) (g, h))).2 (mnP (mxP (a, b) (c, d)) (mxP (e, f) (g, h))).1 (mnP (mxP (a, b) (c, d)) (mxP (e, f) (g, h))).2)) := fun z => by
    unfold clashB at q
    rw [if_pos z] at q
    exact q
  have two : (turnI a b c d e f == turnI a b c d g h && turnI a b c d g h == 0) = false → Qd (.bool (decide (turnI a b c d e f * turnI a b c d g h < 0) && decide (turnI e f g h a b * turnI e f g h c d < 0))) := fun z => by
    unfold clashB at q
    rw [if_neg (by rw [z]; decide)] at q
    exact q
  have sep : (turnI a b c d e f == turnI a b c d g h && turnI a b c d g h == 0) = false → dRet (dAnd (dCall m_separates nothing (dCons (dVar 3) (dCons (dVar 4) (dCons (dVar 5) (dCons (dVar 6) dNil))))) (dCall m_separates nothing (dCons (dVar 5) (dCons (dVar 6) (dCons (dVar 3) (dCons (dVar 4) dNil)))))) (dends Qd)
      [.d (wallD n a b c d), .d (wallD m e f g h), .d (.str m), .d (prD a b), .d (prD c d), .d (prD e f), .d (prD g h)] := fun z => by
    have t := two z
    refine ⟨a, b, c, d, e, f, g, h, rfl, ha, hb, hc, hd, ?_⟩
    refine iteB_i (fun y => ?_) (fun y => ?_)
    · rw [y, Bool.true_and] at t
      exact ⟨e, f, g, h, a, b, c, d, rfl, hc, hd, ha, hb, t⟩
    · rw [y, Bool.false_and] at t
      exact t
  refine ⟨rfl, rfl, a, b, c, d, e, f, rfl, ha, hb, hc, a, b, c, d, g, h, rfl, ha, hb, hd, rfl, rfl, iteB_i (fun y => ⟨rfl, rfl, iteB_i (fun y2 => ?_) (fun y2 => ?_)⟩) (fun y => ?_)⟩
  · have z : (turnI a b c d e f == turnI a b c d g h && turnI a b c d g h == 0) = true := by
      replace y : (turnI a b c d e f == turnI a b c d g h) = true := y
      replace y2 : (turnI a b c d g h == 0) = true := y2
      rw [y, y2]
      rfl
    exact minP_rd (p := (a, b)) (q := (c, d)) (minP_rd (p := (e, f)) (q := (g, h)) (maxP_rd (maxP_rd (p := (a, b)) (q := (c, d)) (maxP_rd (p := (e, f)) (q := (g, h)) (minP_rd (.inr ⟨_, _, _, _, rfl, rfl, one z⟩))))))
  · replace y2 : (turnI a b c d g h == 0) = false := y2
    exact sep (by rw [y2, Bool.and_false])
  · replace y : (turnI a b c d e f == turnI a b c d g h) = false := y
    exact sep (by rw [y, Bool.false_and])
/-! ### is_name -/
abbrev s_is_name : Stmt := topS 9
theorem sc_is_name : FnScope ["thing", "sign"] ["thing"] (defScope s_is_name) := ⟨rfl, rfl, rfl, by decide +kernel, rfl, by decide +kernel, by decide +kernel⟩
def sgnD : PyData → Bool
  | .str t => t.cps.toList.all fun c => decide (c ∈ signsS.cps.toList)
  | _ => false
theorem sgns_all (l : List Nat) : (l.map fun c => PyData.str ⟨#[c]⟩).all sgnD = l.all fun c => decide (c ∈ signsS.cps.toList) := by
  rw [List.all_map]
  congr 1
  funext c
  show ([c].all fun c => decide (c ∈ signsS.cps.toList)) = _
  simp
theorem str_head {z : Str} (h : 1 ≤ z.length) : ∃ c r, z.cps.toList = c :: r := by
  cases e : z.cps.toList with
  | nil =>
    have : z.cps.toList.length = 0 := by rw [e]; rfl
    rw [Array.length_toList] at this
    have h : 1 ≤ z.cps.size := h
    omega
  | cons c r => exact ⟨c, r, rfl⟩
theorem name_str (z : Str) : nameB (.str z) = (decide (1 ≤ z.length) && decide (z.length ≤ 8) && headIn z.cps.toList && z.cps.toList.all fun c => decide (c ∈ signsS.cps.toList)) := rfl
def m_is_name : Md := fun ds Q _ => onOne ds fun x => Fit x ∧ Q (.bool (nameB x))
theorem fk_is_name {P : Program} {w : World} {K : PySem.W.Frag} {mg : Str → Option Value} {base : Heap} {cl : Str → Addr} (S : At K mg "is_name" s_is_name) (T : Blt mg) (gc_DIGITS : ∃ t, mg "DIGITS" = some (.str ("0123456789" : Str) t)) (gc_LETTERS : ∃ t, mg "LETTERS" = some (.str ("abcdefghijklmnopqrstuvwxyz" : Str) t)) (gc_LONGEST_NAME : ∃ t, mg "LONGEST_NAME" = some (.int (8) t)) :
    Fk P w K mg base CX0 1 "is_name" ["thing"] (spD false cl m_is_name) := by
  refine fk_mk0 (n := 1) S sc_is_name (fun f fd F => F.binds fun _ _ _ _ _ _ us hl => (match us, hl with | [_], _ => rfl)) (fun ds Q E h => by
    exact (by first | (replace h := inv_one h; obtain ⟨_, rfl, _⟩ := h; rfl) | (replace h := inv_two h; obtain ⟨_, _, rfl, _⟩ := h; rfl) | (obtain ⟨_, rfl, _⟩ := h; rfl) | (obtain ⟨_, _, rfl, _⟩ := h; rfl) | (obtain ⟨_, _, _, rfl, _⟩ := h; rfl) | (obtain ⟨_, _, _, _, rfl, _⟩ := h; rfl) | (obtain ⟨_, _, _, _, _, rfl, _⟩ := h; rfl) | (obtain ⟨_, _, _, _, _, _, rfl, _⟩ := h; rfl) | (obtain ⟨_, _, _, _, _, _, _, rfl, _⟩ := h; rfl) | (obtain ⟨_, _, _, _, _, _, _, _, rfl, _⟩ := h; rfl) | (obtain ⟨_, _, _, _, _, _, _, _, _, rfl, _⟩ := h; rfl))) rfl fun fa cdv A outer s H E hr => ⟨_, (pss_cons (ps_if (PW.pt (pw_or (pt_not (pt_val (pe_callB (qc_isi (K := K) rfl) (by rfl) T.isinst (by decide +kernel) (pa_cons (pv 0) (pa_cons (pe_bltn (v := .ty "str") (by rfl) T.str (by decide +kernel) rfl) pa_nil))))) (pw_or1 (pt_not (pt_chain op_le op_le pe_int (pe_callB (qc_len (K := K) rfl) (by rfl) T.len (by decide +kernel) (pa_cons (pv 0) pa_nil)) (pe_globI (by rfl) gc_LONGEST_NAME)))))) (pss_one (ps_ret pe_bl)) pss_nil)
      (pss_one (ps_ret (pe_and (pe_cmpR qo_sign (qe_ix (K := K) rfl (pv 0) pe_int) (pe_globS (by rfl) gc_LETTERS) (by with_unfolding_all rfl)) (pe_one (pe_callB (qc_all (K := K) rfl rfl) (by rfl) T.all (by decide +kernel) (pa_cons (pe_lc (own := [("sign", 1)]) rfl sc_is_name.nd (pi_any (K := K) rfl (pv 0)) (blkOk_by (own := [("sign", 1)]) (N := ["thing", "sign"]) (sc := defScope s_is_name) (by decide +kernel)) (fun _ _ _ _ _ => (pg_name (i := 1) sc_is_name.nd rfl (Or.inl rfl))) (fun _ _ _ _ _ => pts_nil) (fun _ _ _ _ _ => (pe_cmpR qo_sign (pv 1) (qe_add (K := K) rfl (pe_globS (by rfl) gc_LETTERS) (pe_globS (by rfl) gc_DIGITS)) (by with_unfolding_all rfl)))) pa_nil))))))), fun f hcl => ⟨_, (ss_seq (ss_if (st_or (st_not (st_b (se_isi isi_str se_var))) (st_not (st_test (se_chain s2_le s2_le se_int (se_cb sn_len (sa_cons se_var sa_nil)) se_int)))) (ss_ret se_bl) ss_next)
      (ss_ret (se_and (se_op s2_sgn (se_op s2_ixA se_var se_int) se_str) (se_cb sn_all (sa_cons (se_own (seo_lc (si_any se_var) sg_name (by decide) st_yes (se_op s2_sgn se_var (se_op s2_add se_str se_str)))) sa_nil))))), fun ds Qd h => ?_⟩⟩
  replace h := inv_one h
  obtain ⟨x, rfl, hs, q⟩ := h
  cases x with
  | str z =>
    have hz := sz_slen hs
    have hz' : z.length ≤ 100000 := Nat.le_trans hz (by decide)
    rw [name_str] at q
    refine ⟨hz', iteB_i (fun h1 => iteB_i (fun h2 => ?_) (fun h2 => ?_)) (fun h1 => ?_)⟩
    · have h2 : ¬ ((z.length : Nat) : Int) ≤ 8 := by simpa using h2
      rw [show decide (z.length ≤ 8) = false from decide_eq_false (by omega), Bool.and_false, Bool.false_and, Bool.false_and] at q
      exact q
    · have h1 : (1 : Int) ≤ (z.length : Nat) := of_decide_eq_true h1
      have h2 : ((z.length : Nat) : Int) ≤ 8 := by simpa using h2
      rw [show decide (z.length ≤ 8) = true from decide_eq_true (by omega), show decide (1 ≤ z.length) = true from decide_eq_true (by omega), Bool.true_and, Bool.true_and] at q
      obtain ⟨c, r, ec⟩ := str_head (z := z) (by omega)
      refine .inr ⟨z, 0, c, rfl, rfl, hz', by rw [atI_0, ec]; rfl, c, rfl, iteB_i (fun h3 => ?_) (fun h3 => ?_)⟩
      · have e3 : headIn z.cps.toList = true := by rw [ec]; exact h3
        rw [e3, Bool.true_and] at q
        refine ⟨by rw [List.length_map, Array.length_toList]; exact hz', comp_map (fun x => .bool (sgnD x)) _ [] (fun x hx k hk => ?_) (bools ?_)⟩
        · obtain ⟨c', _, rfl⟩ := List.mem_map.mp hx
          refine ⟨by decide +kernel, c', rfl, ?_⟩
          rw [show sgnD (.str ⟨#[c']⟩) = decide (c' ∈ signsS.cps.toList) by show ([c'].all fun c => decide (c ∈ signsS.cps.toList)) = _; simp, ← signs_app] at hk
          exact hk
        · rw [sgns_all]
          exact q
      · have e3 : headIn z.cps.toList = false := by rw [ec]; exact h3
        rw [e3, Bool.false_and] at q
        exact q
    · have h1 : ¬ (1 : Int) ≤ (z.length : Nat) := of_decide_eq_false h1
      rw [show decide (1 ≤ z.length) = false from decide_eq_false (by omega), Bool.false_and, Bool.false_and, Bool.false_and] at q
      exact q
  | _ => exact q
/-! ### is_named_segment -/
abbrev s_is_named_segment : Stmt := topS 12
theorem sc_is_named_segment : FnScope ["thing", "name", "p", "q"] ["thing"] (defScope s_is_named_segment) := ⟨rfl, rfl, rfl, by decide +kernel, rfl, by decide +kernel, by decide +kernel⟩
def m_is_named_segment : Md := fun ds Q _ => onOne ds fun x => Fit x ∧ Q (.bool (segB x))
theorem fk_is_named_segment {P : Program} {w : World} {K : PySem.W.Frag} {mg : Str → Option Value} {base : Heap} {cl : Str → Addr} (S : At K mg "is_named_segment" s_is_named_segment) (T : Blt mg) (G_is_name : Fk P w K mg base CX0 1 "is_name" ["thing"] (spD false cl m_is_name)) (G_is_tuple_of_integers : Fk P w K mg base CX0 2 "is_tuple_of_integers" ["thing", "many"] (spD false cl m_is_tuple_of_integers)) :
    Fk P w K mg base CX0 3 "is_named_segment" ["thing"] (spD false cl m_is_named_segment) := by
  refine fk_mk0 (n := 1) S sc_is_named_segment (fun f fd F => F.binds fun _ _ _ _ _ _ us hl => (match us, hl with | [_], _ => rfl)) (fun ds Q E h => by
    exact (by first | (replace h := inv_one h; obtain ⟨_, rfl, _⟩ := h; rfl) | (replace h := inv_two h; obtain ⟨_, _, rfl, _⟩ := h; rfl) | (obtain ⟨_, rfl, _⟩ := h; rfl) | (obtain ⟨_, _, rfl, _⟩ := h; rfl) | (obtain ⟨_, _, _, rfl, _⟩ := h; rfl) | (obtain ⟨_, _, _, _, rfl, _⟩ := h; rfl) | (obtain ⟨_, _, _, _, _, rfl, _⟩ := h; rfl) | (obtain ⟨_, _, _, _, _, _, rfl, _⟩ := h; rfl) | (obtain ⟨_, _, _, _, _, _, _, rfl, _⟩ := h; rfl) | (obtain ⟨_, _, _, _, _, _, _, _, rfl, _⟩ := h; rfl) | (obtain ⟨_, _, _, _, _, _, _, _, _, rfl, _⟩ := h; rfl))) rfl fun fa cdv A outer s H E hr => ⟨_, (pss_cons (ps_if (PW.pt (pw_or (pt_not (pt_val (pe_callB (qc_isi (K := K) rfl) (by rfl) T.isinst (by decide +kernel) (pa_cons (pv 0) (pa_cons (pe_bltn (v := .ty "tuple") (by rfl) T.tuple (by decide +kernel) rfl) pa_nil))))) (pw_or1 (pt_cmpR (qo_ne (K := K) rfl hr.units) (pe_callB (qc_len (K := K) rfl) (by rfl) T.len (by decide +kernel) (pa_cons (pv 0) pa_nil)) pe_int (nomark _))))) (pss_one (ps_ret pe_bl)) pss_nil)
      (pss_cons (ps_asg (pv 0) (qg_tup (K := K) (n := 3) rfl rfl (pgs_cons (pg_name (i := 1) sc_is_named_segment.nd rfl (.inl rfl)) (pgs_cons (pg_name (i := 2) sc_is_named_segment.nd rfl (.inl rfl)) (pgs_cons (pg_name (i := 3) sc_is_named_segment.nd rfl (.inl rfl)) pgs_nil)))))
      (pss_one (ps_ret (pe_and (pe_cl G_is_name (hr.mono (by decide : 1 ≤ 2)) (by rfl) pass0 (pa_cons (pv 1) pa_nil)) (pe_and (pe_cl G_is_tuple_of_integers (hr.mono (by decide : 2 ≤ 2)) (by rfl) pass0 (pa_cons (pv 2) (pa_cons pe_int pa_nil))) (pe_and (pe_cl G_is_tuple_of_integers (hr.mono (by decide : 2 ≤ 2)) (by rfl) pass0 (pa_cons (pv 3) (pa_cons pe_int pa_nil))) (pe_one (pe_cmpR (qo_ne (K := K) rfl hr.units) (pv 2) (pv 3) (nomark _)))))))))), fun f hcl => ⟨_, (ss_seq (ss_if (st_or (st_not (st_b (se_isi isi_tuple se_var))) (st_test (se_op s2_ne (se_cb sn_len (sa_cons se_var sa_nil)) se_int))) (ss_ret se_bl) ss_next)
      (ss_seq (ss_asg se_var (sg_tup (sgs_cons sg_name (sgs_cons sg_name (sgs_cons sg_name sgs_nil)))))
      (ss_ret (se_and (se_callF hcl (sa_cons se_var sa_nil)) (se_and (se_callF hcl (sa_cons se_var (sa_cons se_int sa_nil))) (se_and (se_callF hcl (sa_cons se_var (sa_cons se_int sa_nil))) (se_op s2_ne se_var se_var))))))), fun ds Qd h => ?_⟩⟩
  replace h := inv_one h
  obtain ⟨x, rfl, hs, q⟩ := h
  cases x with
  | tuple xs =>
    refine ⟨rfl, rfl, iteB_i (fun h1 => ?_) (fun h1 => ?_)⟩
    · have h1 : ¬ xs.length = 3 := by
        have h1 : (!PyData.eqv (.int (xs.length : Nat)) (.int ((3 : Nat) : Int))) = true := h1
        rw [eqn xs.length 3] at h1
        simpa using h1
      rw [seg_len h1] at q
      exact q
    · have h1 : xs.length = 3 := by
        have h1 : (!PyData.eqv (.int (xs.length : Nat)) (.int ((3 : Nat) : Int))) = false := h1
        rw [eqn xs.length 3] at h1
        simpa using h1
      obtain ⟨n, p, r, rfl⟩ := three h1
      have fn := Fit.mem hs n (by simp)
      have fp := Fit.mem hs p (by simp)
      have fr := Fit.mem hs r (by simp)
      rw [seg3] at q
      refine ⟨rfl, fn, iteB_i (fun a => ?_) (fun a => ?_)⟩
      · rw [a, Bool.true_and] at q
        refine ⟨fp.short, iteB_i (fun b => ?_) (fun b => ?_)⟩
        · rw [b, Bool.true_and] at q
          refine ⟨fr.short, iteB_i (fun c => ?_) (fun c => ?_)⟩
          · rw [c, Bool.true_and] at q
            obtain ⟨x1, y1, rfl⟩ := isInts2 b
            obtain ⟨x2, y2, rfl⟩ := isInts2 c
            exact ⟨shaped_tup [x1, y1], shaped_tup [x2, y2], q⟩
          · rw [c, Bool.false_and] at q
            exact q
        · rw [b, Bool.false_and] at q
          exact q
      · rw [a, Bool.false_and] at q
        exact q
  | _ => exact q
end Ey
namespace Ey
open PySem PySem.Spec PyProof.Rows L2
/-! ### _law_is_integer -/
abbrev s__law_is_integer : Stmt := topS 23
theorem sc__law_is_integer : FnScope ["thing"] ["thing"] (defScope s__law_is_integer) := ⟨rfl, rfl, rfl, by decide +kernel, rfl, by decide +kernel, by decide +kernel⟩
def m__law_is_integer : Md := fun ds Q _ => onOne ds fun x => Q (.bool (isInt x))
theorem fk__law_is_integer {P : Program} {w : World} {K : PySem.W.Frag} {mg : Str → Option Value} {base : Heap} {cl : Str → Addr} (S : At K mg "_law_is_integer" s__law_is_integer) (T : Blt mg) :
    Fk P w K mg base CX0 1 "_law_is_integer" ["thing"] (spD false cl m__law_is_integer) := by
  refine fk_mk0 (n := 1) S sc__law_is_integer (fun f fd F => F.binds fun _ _ _ _ _ _ us hl => (match us, hl with | [_], _ => rfl)) (fun ds Q E h => by
    exact (by first | (replace h := inv_one h; obtain ⟨_, rfl, _⟩ := h; rfl) | (replace h := inv_two h; obtain ⟨_, _, rfl, _⟩ := h; rfl) | (obtain ⟨_, rfl, _⟩ := h; rfl) | (obtain ⟨_, _, rfl, _⟩ := h; rfl) | (obtain ⟨_, _, _, rfl, _⟩ := h; rfl) | (obtain ⟨_, _, _, _, rfl, _⟩ := h; rfl) | (obtain ⟨_, _, _, _, _, rfl, _⟩ := h; rfl) | (obtain ⟨_, _, _, _, _, _, rfl, _⟩ := h; rfl) | (obtain ⟨_, _, _, _, _, _, _, rfl, _⟩ := h; rfl) | (obtain ⟨_, _, _, _, _, _, _, _, rfl, _⟩ := h; rfl) | (obtain ⟨_, _, _, _, _, _, _, _, _, rfl, _⟩ := h; rfl))) rfl fun fa cdv A outer s H E hr => ⟨_, (pss_one (ps_ret (pe_and (pe_callB (qc_isi (K := K) rfl) (by rfl) T.isinst (by decide +kernel) (pa_cons (pv 0) (pa_cons (pe_bltn (v := .ty "int") (by rfl) T.int (by decide +kernel) rfl) pa_nil))) (pe_one (pe_not (pe_callB (qc_isi (K := K) rfl) (by rfl) T.isinst (by decide +kernel) (pa_cons (pv 0) (pa_cons (pe_bltn (v := .ty "bool") (by rfl) T.bool (by decide +kernel) rfl) pa_nil)))))))), fun f hcl => ⟨_, (ss_ret (se_and (se_isi isi_int se_var) (se_not (se_isi isi_bool se_var)))), fun ds Qd h => ?_⟩⟩
  replace h := inv_one h
  obtain ⟨x, rfl, q⟩ := h
  cases x <;> exact q
/-! ### _law_are_integers -/
abbrev s__law_are_integers : Stmt := topS 25
theorem sc__law_are_integers : FnScope ["thing", "many", "x"] ["thing", "many"] (defScope s__law_are_integers) := ⟨rfl, rfl, rfl, by decide +kernel, rfl, by decide +kernel, by decide +kernel⟩
def m__law_are_integers : Md := fun ds Q _ => onTwo ds fun x y => onInt y fun n => Short x ∧ Q (.bool (isInts n x))
theorem fk__law_are_integers {P : Program} {w : World} {K : PySem.W.Frag} {mg : Str → Option Value} {base : Heap} {cl : Str → Addr} (S : At K mg "_law_are_integers" s__law_are_integers) (T : Blt mg) (G__law_is_integer : Fk P w K mg base CX0 1 "_law_is_integer" ["thing"] (spD false cl m__law_is_integer)) :
    Fk P w K mg base CX0 2 "_law_are_integers" ["thing", "many"] (spD false cl m__law_are_integers) := by
  refine fk_mk0 (n := 2) S sc__law_are_integers (fun f fd F => F.binds fun _ _ _ _ _ _ us hl => (match us, hl with | [_, _], _ => rfl)) (fun ds Q E h => by
    exact (by first | (replace h := inv_one h; obtain ⟨_, rfl, _⟩ := h; rfl) | (replace h := inv_two h; obtain ⟨_, _, rfl, _⟩ := h; rfl) | (obtain ⟨_, rfl, _⟩ := h; rfl) | (obtain ⟨_, _, rfl, _⟩ := h; rfl) | (obtain ⟨_, _, _, rfl, _⟩ := h; rfl) | (obtain ⟨_, _, _, _, rfl, _⟩ := h; rfl) | (obtain ⟨_, _, _, _, _, rfl, _⟩ := h; rfl) | (obtain ⟨_, _, _, _, _, _, rfl, _⟩ := h; rfl) | (obtain ⟨_, _, _, _, _, _, _, rfl, _⟩ := h; rfl) | (obtain ⟨_, _, _, _, _, _, _, _, rfl, _⟩ := h; rfl) | (obtain ⟨_, _, _, _, _, _, _, _, _, rfl, _⟩ := h; rfl))) rfl fun fa cdv A outer s H E hr => ⟨_, (pss_one (ps_ret (pe_and (pe_callB (qc_isi (K := K) rfl) (by rfl) T.isinst (by decide +kernel) (pa_cons (pv 0) (pa_cons (pe_bltn (v := .ty "tuple") (by rfl) T.tuple (by decide +kernel) rfl) pa_nil))) (pe_and (pe_cmpR (qo_eq (K := K) rfl hr.units) (pe_callB (qc_len (K := K) rfl) (by rfl) T.len (by decide +kernel) (pa_cons (pv 0) pa_nil)) (pv 1) (nomark _)) (pe_one (pe_cmpR (qo_eqNil (K := K) rfl hr.units) (pe_lc (own := [("x", 2)]) rfl sc__law_are_integers.nd (pi_any (K := K) rfl (pv 0)) (blkOk_by (own := [("x", 2)]) (N := ["thing", "many", "x"]) (sc := defScope s__law_are_integers) (by decide +kernel)) (fun _ _ _ _ _ => (pg_name (i := 2) sc__law_are_integers.nd rfl (Or.inl rfl))) (fun _ _ _ _ _ => (pts_one (pt_not (pt_val (pe_cl G__law_is_integer (hr.mono (by decide : 1 ≤ 1)) (by rfl) pass0 (pa_cons (pv 2) pa_nil)))))) (fun _ _ _ _ _ => (pv 2))) (pe_lst pa_nil) (nomark _))))))), fun f hcl => ⟨_, (ss_ret (se_and (se_isi isi_tuple se_var) (se_and (se_op s2_eq (se_cb sn_len (sa_cons se_var sa_nil)) se_var) (se_op s2_nil (se_own (seo_lc (si_any se_var) sg_name (by decide) (st_not (st_b (se_callF hcl (sa_cons se_var sa_nil)))) se_var)) (se_lst sa_nil))))), fun ds Qd h => ?_⟩⟩
  replace h := inv_two h
  obtain ⟨x, y, rfl, h⟩ := h
  replace h := inv_int h
  obtain ⟨n, rfl, hs, q⟩ := h
  cases x with
  | tuple ds =>
    rw [isInts_tup] at q
    refine ⟨rfl, rfl, iteB_i (fun h => ?_) (fun h => ?_)⟩
    · have h : ((ds.length : Int) == n) = true := h
      rw [h, Bool.true_and] at q
      refine ⟨hs, comp_flt (fun x => !isInt x) _ [] (fun x hx R R0 h => h) ⟨by decide, ?_⟩⟩
      show Qd (.bool (ds.filter fun x => !isInt x).isEmpty)
      rw [filt_all]
      exact q
    · have h : ((ds.length : Int) == n) = false := h
      rw [h, Bool.false_and] at q
      exact q
  | _ => exact q
/-! ### _law_is_name -/
abbrev s__law_is_name : Stmt := topS 26
theorem sc__law_is_name : FnScope ["thing", "x"] ["thing"] (defScope s__law_is_name) := ⟨rfl, rfl, rfl, by decide +kernel, rfl, by decide +kernel, by decide +kernel⟩
def m__law_is_name : Md := fun ds Q _ => onOne ds fun x => Fit x ∧ Q (.bool (nameB x))
theorem fk__law_is_name {P : Program} {w : World} {K : PySem.W.Frag} {mg : Str → Option Value} {base : Heap} {cl : Str → Addr} (S : At K mg "_law_is_name" s__law_is_name) (T : Blt mg) :
    Fk P w K mg base CX0 1 "_law_is_name" ["thing"] (spD false cl m__law_is_name) := by
  refine fk_mk0 (n := 1) S sc__law_is_name (fun f fd F => F.binds fun _ _ _ _ _ _ us hl => (match us, hl with | [_], _ => rfl)) (fun ds Q E h => by
    exact (by first | (replace h := inv_one h; obtain ⟨_, rfl, _⟩ := h; rfl) | (replace h := inv_two h; obtain ⟨_, _, rfl, _⟩ := h; rfl) | (obtain ⟨_, rfl, _⟩ := h; rfl) | (obtain ⟨_, _, rfl, _⟩ := h; rfl) | (obtain ⟨_, _, _, rfl, _⟩ := h; rfl) | (obtain ⟨_, _, _, _, rfl, _⟩ := h; rfl) | (obtain ⟨_, _, _, _, _, rfl, _⟩ := h; rfl) | (obtain ⟨_, _, _, _, _, _, rfl, _⟩ := h; rfl) | (obtain ⟨_, _, _, _, _, _, _, rfl, _⟩ := h; rfl) | (obtain ⟨_, _, _, _, _, _, _, _, rfl, _⟩ := h; rfl) | (obtain ⟨_, _, _, _, _, _, _, _, _, rfl, _⟩ := h; rfl))) rfl fun fa cdv A outer s H E hr => ⟨_, (pss_cons (ps_if (PW.pt (pw_or (pt_not (pt_val (pe_callB (qc_isi (K := K) rfl) (by rfl) T.isinst (by decide +kernel) (pa_cons (pv 0) (pa_cons (pe_bltn (v := .ty "str") (by rfl) T.str (by decide +kernel) rfl) pa_nil))))) (pw_or (pt_not (pt_chain op_lt op_lt pe_int (pe_callB (qc_len (K := K) rfl) (by rfl) T.len (by decide +kernel) (pa_cons (pv 0) pa_nil)) pe_int)) (pw_or1 (pt_cmpR qo_nsign (qe_ix (K := K) rfl (pv 0) pe_int) pe_str (by with_unfolding_all rfl)))))) (pss_one (ps_ret pe_bl)) pss_nil)
      (pss_one (ps_ret (pe_cmpR (qo_eqNil (K := K) rfl hr.units) (pe_lc (own := [("x", 1)]) rfl sc__law_is_name.nd (pi_any (K := K) rfl (pv 0)) (blkOk_by (own := [("x", 1)]) (N := ["thing", "x"]) (sc := defScope s__law_is_name) (by decide +kernel)) (fun _ _ _ _ _ => (pg_name (i := 1) sc__law_is_name.nd rfl (Or.inl rfl))) (fun _ _ _ _ _ => (pts_one (pt_cmpR qo_nsign (pv 1) pe_str (by with_unfolding_all rfl)))) (fun _ _ _ _ _ => (pv 1))) (pe_lst pa_nil) (nomark _))))), fun f hcl => ⟨_, (ss_seq (ss_if (st_or (st_not (st_b (se_isi isi_str se_var))) (st_or (st_not (st_test (se_chain s2_lt s2_lt se_int (se_cb sn_len (sa_cons se_var sa_nil)) se_int))) (st_test (se_op s2_sgn (se_op s2_ixA se_var se_int) se_str)))) (ss_ret se_bl) ss_next)
      (ss_ret (se_op s2_nil (se_own (seo_lc (si_any se_var) sg_name (by decide) (st_test (se_op s2_sgn se_var se_str)) se_var)) (se_lst sa_nil)))), fun ds Qd h => ?_⟩⟩
  replace h := inv_one h
  obtain ⟨x, rfl, hs, q⟩ := h
  cases x with
  | str z =>
    have hz := sz_slen hs
    have hz' : z.length ≤ 100000 := Nat.le_trans hz (by decide)
    rw [name_str] at q
    refine ⟨hz', iteB_i (fun h1 => iteB_i (fun h2 => ?_) (fun h2 => ?_)) (fun h1 => ?_)⟩
    · have h2 : ¬ ((z.length : Nat) : Int) < 9 := by simpa using h2
      rw [show decide (z.length ≤ 8) = false from decide_eq_false (by omega), Bool.and_false, Bool.false_and, Bool.false_and] at q
      exact q
    · have h1 : (0 : Int) < (z.length : Nat) := of_decide_eq_true h1
      have h2 : ((z.length : Nat) : Int) < 9 := by simpa using h2
      rw [show decide (z.length ≤ 8) = true from decide_eq_true (by omega), show decide (1 ≤ z.length) = true from decide_eq_true (by omega), Bool.true_and, Bool.true_and] at q
      obtain ⟨c, r, ec⟩ := str_head (z := z) (by omega)
      refine .inr ⟨z, 0, c, rfl, rfl, hz', by rw [atI_0, ec]; rfl, c, rfl, iteB_i (fun h3 => ?_) (fun h3 => ?_)⟩
      · have e3 : headIn z.cps.toList = false := by
          rw [ec]
          have h3 : (!decide (c ∈ lettersS.cps.toList)) = true := h3
          show decide (c ∈ lettersS.cps.toList) = false
          simpa using h3
        rw [e3, Bool.false_and] at q
        exact q
      · have e3 : headIn z.cps.toList = true := by
          rw [ec]
          have h3 : (!decide (c ∈ lettersS.cps.toList)) = false := h3
          show decide (c ∈ lettersS.cps.toList) = true
          simpa using h3
        rw [e3, Bool.true_and] at q
        refine ⟨by rw [List.length_map, Array.length_toList]; exact hz', comp_flt (fun x => !sgnD x) _ [] (fun x hx R R0 hk => ?_) ⟨by decide, ?_⟩⟩
        · obtain ⟨c', _, rfl⟩ := List.mem_map.mp hx
          refine ⟨c', rfl, ?_⟩
          rw [show sgnD (.str ⟨#[c']⟩) = decide (c' ∈ signsS.cps.toList) by show ([c'].all fun c => decide (c ∈ signsS.cps.toList)) = _; simp] at hk
          exact hk
        · show Qd (.bool (((z.cps.toList.map fun c => PyData.str ⟨#[c]⟩).filter fun x => !sgnD x).isEmpty))
          rw [filt_all, sgns_all]
          exact q
    · have h1 : ¬ (0 : Int) < (z.length : Nat) := of_decide_eq_false h1
      rw [show decide (1 ≤ z.length) = false from decide_eq_false (by omega), Bool.false_and, Bool.false_and, Bool.false_and] at q
      exact q
  | _ => exact q
/-! ### _law_sign -/
abbrev s__law_sign : Stmt := topS 27
theorem sc__law_sign : FnScope ["x"] ["x"] (defScope s__law_sign) := ⟨rfl, rfl, rfl, by decide +kernel, rfl, by decide +kernel, by decide +kernel⟩
def m__law_sign : Md := fun ds Q _ => onOne ds fun x => onInt x fun n => Q (.int (sgn n))
theorem fk__law_sign {P : Program} {w : World} {K : PySem.W.Frag} {mg : Str → Option Value} {base : Heap} {cl : Str → Addr} (S : At K mg "_law_sign" s__law_sign) (T : Blt mg) :
    Fk P w K mg base CX0 1 "_law_sign" ["x"] (spD false cl m__law_sign) := by
  refine fk_mk0 (n := 1) S sc__law_sign (fun f fd F => F.binds fun _ _ _ _ _ _ us hl => (match us, hl with | [_], _ => rfl)) (fun ds Q E h => by
    exact (by first | (replace h := inv_one h; obtain ⟨_, rfl, _⟩ := h; rfl) | (replace h := inv_two h; obtain ⟨_, _, rfl, _⟩ := h; rfl) | (obtain ⟨_, rfl, _⟩ := h; rfl) | (obtain ⟨_, _, rfl, _⟩ := h; rfl) | (obtain ⟨_, _, _, rfl, _⟩ := h; rfl) | (obtain ⟨_, _, _, _, rfl, _⟩ := h; rfl) | (obtain ⟨_, _, _, _, _, rfl, _⟩ := h; rfl) | (obtain ⟨_, _, _, _, _, _, rfl, _⟩ := h; rfl) | (obtain ⟨_, _, _, _, _, _, _, rfl, _⟩ := h; rfl) | (obtain ⟨_, _, _, _, _, _, _, _, rfl, _⟩ := h; rfl) | (obtain ⟨_, _, _, _, _, _, _, _, _, rfl, _⟩ := h; rfl))) rfl fun fa cdv A outer s H E hr => ⟨_, (pss_one (ps_ret (pe_ifExp (pt_cmpR op_gt (pv 0) pe_int (nomark _)) pe_int (pe_ifExp (pt_cmpR op_lt (pv 0) pe_int (nomark _)) (pe_un un_neg pe_int) pe_int)))), fun f hcl => ⟨_, (ss_ret (se_if (st_test (se_op s2_gt se_var se_int)) se_int (se_if (st_test (se_op s2_lt se_var se_int)) (se_un s1_neg se_int) se_int))), fun ds Qd h => ?_⟩⟩
  replace h := inv_one h
  obtain ⟨x, rfl, h⟩ := h
  replace h := inv_int h
  obtain ⟨n, rfl, q⟩ := h
  unfold sgn at q
  refine iteB_i (fun h => ?_) (fun h => ?_)
  · rw [if_pos (of_decide_eq_true h)] at q
    exact q
  · have h1 : ¬ 0 < n := of_decide_eq_false h
    rw [if_neg h1] at q
    refine iteB_i (fun h => ?_) (fun h => ?_)
    · rw [if_pos (of_decide_eq_true h)] at q
      exact q
    · rw [if_neg (of_decide_eq_false h)] at q
      exact q
/-! ### _law_is_segment -/
abbrev s__law_is_segment : Stmt := topS 28
theorem sc__law_is_segment : FnScope ["thing"] ["thing"] (defScope s__law_is_segment) := ⟨rfl, rfl, rfl, by decide +kernel, rfl, by decide +kernel, by decide +kernel⟩
def m__law_is_segment : Md := fun ds Q _ => onOne ds fun x => Fit x ∧ Q (.bool (segB x))
theorem fk__law_is_segment {P : Program} {w : World} {K : PySem.W.Frag} {mg : Str → Option Value} {base : Heap} {cl : Str → Addr} (S : At K mg "_law_is_segment" s__law_is_segment) (T : Blt mg) (G__law_are_integers : Fk P w K mg base CX0 2 "_law_are_integers" ["thing", "many"] (spD false cl m__law_are_integers)) (G__law_is_name : Fk P w K mg base CX0 1 "_law_is_name" ["thing"] (spD false cl m__law_is_name)) :
    Fk P w K mg base CX0 3 "_law_is_segment" ["thing"] (spD false cl m__law_is_segment) := by
  refine fk_mk0 (n := 1) S sc__law_is_segment (fun f fd F => F.binds fun _ _ _ _ _ _ us hl => (match us, hl with | [_], _ => rfl)) (fun ds Q E h => by
    exact (by first | (replace h := inv_one h; obtain ⟨_, rfl, _⟩ := h; rfl) | (replace h := inv_two h; obtain ⟨_, _, rfl, _⟩ := h; rfl) | (obtain ⟨_, rfl, _⟩ := h; rfl) | (obtain ⟨_, _, rfl, _⟩ := h; rfl) | (obtain ⟨_, _, _, rfl, _⟩ := h; rfl) | (obtain ⟨_, _, _, _, rfl, _⟩ := h; rfl) | (obtain ⟨_, _, _, _, _, rfl, _⟩ := h; rfl) | (obtain ⟨_, _, _, _, _, _, rfl, _⟩ := h; rfl) | (obtain ⟨_, _, _, _, _, _, _, rfl, _⟩ := h; rfl) | (obtain ⟨_, _, _, _, _, _, _, _, rfl, _⟩ := h; rfl) | (obtain ⟨_, _, _, _, _, _, _, _, _, rfl, _⟩ := h; rfl))) rfl fun fa cdv A outer s H E hr => ⟨_, (pss_cons (ps_if (PW.pt (pw_or (pt_not (pt_val (pe_callB (qc_isi (K := K) rfl) (by rfl) T.isinst (by decide +kernel) (pa_cons (pv 0) (pa_cons (pe_bltn (v := .ty "tuple") (by rfl) T.tuple (by decide +kernel) rfl) pa_nil))))) (pw_or (pt_cmpR (qo_ne (K := K) rfl hr.units) (pe_callB (qc_len (K := K) rfl) (by rfl) T.len (by decide +kernel) (pa_cons (pv 0) pa_nil)) pe_int (nomark _)) (pw_or1 (pt_not (pt_val (pe_cl G__law_is_name (hr.mono (by decide : 1 ≤ 2)) (by rfl) pass0 (pa_cons (qe_ix (K := K) rfl (pv 0) pe_int) pa_nil)))))))) (pss_one (ps_ret pe_bl)) pss_nil)
      (pss_one (ps_ret (pe_and (pe_cl G__law_are_integers (hr.mono (by decide : 2 ≤ 2)) (by rfl) pass0 (pa_cons (qe_ix (K := K) rfl (pv 0) pe_int) (pa_cons pe_int pa_nil))) (pe_and (pe_cl G__law_are_integers (hr.mono (by decide : 2 ≤ 2)) (by rfl) pass0 (pa_cons (qe_ix (K := K) rfl (pv 0) pe_int) (pa_cons pe_int pa_nil))) (pe_one (pe_cmpR (qo_ne (K := K) rfl hr.units) (qe_ix (K := K) rfl (pv 0) pe_int) (qe_ix (K := K) rfl (pv 0) pe_int) (nomark _)))))))), fun f hcl => ⟨_, (ss_seq (ss_if (st_or (st_not (st_b (se_isi isi_tuple se_var))) (st_or (st_test (se_op s2_ne (se_cb sn_len (sa_cons se_var sa_nil)) se_int)) (st_not (st_b (se_callF hcl (sa_cons (se_op s2_ix se_var se_int) sa_nil)))))) (ss_ret se_bl) ss_next)
      (ss_ret (se_and (se_callF hcl (sa_cons (se_op s2_ix se_var se_int) (sa_cons se_int sa_nil))) (se_and (se_callF hcl (sa_cons (se_op s2_ix se_var se_int) (sa_cons se_int sa_nil))) (se_op s2_ne (se_op s2_ix se_var se_int) (se_op s2_ix se_var se_int)))))), fun ds Qd h => ?_⟩⟩
  replace h := inv_one h
  obtain ⟨x, rfl, hs, q⟩ := h
  cases x with
  | tuple xs =>
    refine ⟨rfl, rfl, iteB_i (fun h1 => ?_) (fun h1 => ?_)⟩
    · have h1 : ¬ xs.length = 3 := by
        have h1 : (!PyData.eqv (.int (xs.length : Nat)) (.int ((3 : Nat) : Int))) = true := h1
        rw [eqn xs.length 3] at h1
        simpa using h1
      rw [seg_len h1] at q
      exact q
    · have h1 : xs.length = 3 := by
        have h1 : (!PyData.eqv (.int (xs.length : Nat)) (.int ((3 : Nat) : Int))) = false := h1
        rw [eqn xs.length 3] at h1
        simpa using h1
      obtain ⟨n, p, r, rfl⟩ := three h1
      have fn := Fit.mem hs n (by simp)
      have fp := Fit.mem hs p (by simp)
      have fr := Fit.mem hs r (by simp)
      rw [seg3] at q
      refine ⟨fn, iteB_i (fun a => ?_) (fun a => ?_)⟩
      · have a : nameB n = false := by simpa using a
        rw [a, Bool.false_and] at q
        exact q
      · have a : nameB n = true := by simpa using a
        rw [a, Bool.true_and] at q
        refine ⟨fp.short, iteB_i (fun b => ?_) (fun b => ?_)⟩
        · rw [b, Bool.true_and] at q
          refine ⟨fr.short, iteB_i (fun c => ?_) (fun c => ?_)⟩
          · rw [c, Bool.true_and] at q
            obtain ⟨x1, y1, rfl⟩ := isInts2 b
            obtain ⟨x2, y2, rfl⟩ := isInts2 c
            exact ⟨shaped_tup [x1, y1], shaped_tup [x2, y2], q⟩
          · rw [c, Bool.false_and] at q
            exact q
        · rw [b, Bool.false_and] at q
          exact q
  | _ => exact q
/-! ### _law_turn -/
abbrev s__law_turn : Stmt := topS 29
theorem sc__law_turn : FnScope ["p", "q", "r"] ["p", "q", "r"] (defScope s__law_turn) := ⟨rfl, rfl, rfl, by decide +kernel, rfl, by decide +kernel, by decide +kernel⟩
def m__law_turn : Md := fun ds Q _ => ∃ a b c d e f : Int, ds = [prD a b, prD c d, prD e f] ∧ Sm a b ∧ Sm c d ∧ Sm e f ∧ Q (.int (sgn (turnI a b c d e f)))
theorem fk__law_turn {P : Program} {w : World} {K : PySem.W.Frag} {mg : Str → Option Value} {base : Heap} {cl : Str → Addr} (S : At K mg "_law_turn" s__law_turn) (T : Blt mg) (G__law_sign : Fk P w K mg base CX0 1 "_law_sign" ["x"] (spD false cl m__law_sign)) :
    Fk P w K mg base CX0 2 "_law_turn" ["p", "q", "r"] (spD false cl m__law_turn) := by
  refine fk_mk0 (n := 3) S sc__law_turn (fun f fd F => F.binds fun _ _ _ _ _ _ us hl => (match us, hl with | [_, _, _], _ => rfl)) (fun ds Q E h => by
    obtain ⟨_, _, _, _, _, _, rfl, _⟩ := h
    rfl) rfl fun fa cdv A outer s H E hr => ⟨_, (pss_one (ps_ret (pe_cl G__law_sign (hr.mono (by decide : 1 ≤ 1)) (by rfl) pass0 (pa_cons (pe_op op_sub (pe_op op_mulW (pe_op op_sub (qe_ix (K := K) rfl (pv 1) pe_int) (qe_ix (K := K) rfl (pv 0) pe_int)) (pe_op op_sub (qe_ix (K := K) rfl (pv 2) pe_int) (qe_ix (K := K) rfl (pv 0) pe_int))) (pe_op op_mulW (pe_op op_sub (qe_ix (K := K) rfl (pv 1) pe_int) (qe_ix (K := K) rfl (pv 0) pe_int)) (pe_op op_sub (qe_ix (K := K) rfl (pv 2) pe_int) (qe_ix (K := K) rfl (pv 0) pe_int)))) pa_nil)))), fun f hcl => ⟨_, (ss_ret (se_callF hcl (sa_cons (se_op s2_sub (se_op s2_mul (se_op s2_sub (se_op s2_ix se_var se_int) (se_op s2_ix se_var se_int)) (se_op s2_sub (se_op s2_ix se_var se_int) (se_op s2_ix se_var se_int))) (se_op s2_mul (se_op s2_sub (se_op s2_ix se_var se_int) (se_op s2_ix se_var se_int)) (se_op s2_sub (se_op s2_ix se_var se_int) (se_op s2_ix se_var se_int)))) sa_nil))), fun ds Qd h => ?_⟩⟩
  obtain ⟨a, b, c, d, e, f, rfl, ha, hb, hc, q⟩ := h
  exact ⟨wm (df_lt hb.1 ha.1) (df_lt hc.2 ha.2), wm (df_lt hb.2 ha.2) (df_lt hc.1 ha.1), q⟩
/-! ### _law_is_crossed -/
abbrev s__law_is_crossed : Stmt := topS 30
theorem sc__law_is_crossed : FnScope ["one", "other", "a", "b", "c", "d", "at", "low", "high"] ["one", "other"] (defScope s__law_is_crossed) := ⟨rfl, rfl, rfl, by decide +kernel, rfl, by decide +kernel, by decide +kernel⟩
def m__law_is_crossed : Md := fun ds Q _ => ∃ (n m : Str) (a b c d e f g h : Int), ds = [wallD n a b c d, wallD m e f g h] ∧ Sm a b ∧ Sm c d ∧ Sm e f ∧ Sm g h ∧ (a ≠ c ∨ b ≠ d) ∧ Q (.bool (clashB a b c d e f g h))
theorem fk__law_is_crossed {P : Program} {w : World} {K : PySem.W.Frag} {mg : Str → Option Value} {base : Heap} {cl : Str → Addr} (S : At K mg "_law_is_crossed" s__law_is_crossed) (T : Blt mg) (G__law_turn : Fk P w K mg base CX0 2 "_law_turn" ["p", "q", "r"] (spD false cl m__law_turn)) :
    Fk P w K mg base CX0 3 "_law_is_crossed" ["one", "other"] (spD false cl m__law_is_crossed) := by
  refine fk_mk0 (n := 2) S sc__law_is_crossed (fun f fd F => F.binds fun _ _ _ _ _ _ us hl => (match us, hl with | [_, _], _ => rfl)) (fun ds Q E h => by
    obtain ⟨_, _, _, _, _, _, _, _, _, _, rfl, _⟩ := h
    rfl) rfl fun fa cdv A outer s H E hr => ⟨_, (pss_cons (ps_asg (pe_tup (pa_cons (qe_ix (K := K) rfl (pv 0) pe_int) (pa_cons (qe_ix (K := K) rfl (pv 0) pe_int) (pa_cons (qe_ix (K := K) rfl (pv 1) pe_int) (pa_cons (qe_ix (K := K) rfl (pv 1) pe_int) pa_nil))))) (qg_tup (K := K) (n := 4) rfl rfl (pgs_cons (pg_name (i := 2) sc__law_is_crossed.nd rfl (.inl rfl)) (pgs_cons (pg_name (i := 3) sc__law_is_crossed.nd rfl (.inl rfl)) (pgs_cons (pg_name (i := 4) sc__law_is_crossed.nd rfl (.inl rfl)) (pgs_cons (pg_name (i := 5) sc__law_is_crossed.nd rfl (.inl rfl)) pgs_nil))))))
      (pss_cons (ps_if (PW.pt (pw_and (pt_cmpR (qo_eq (K := K) rfl hr.units) (pe_cl G__law_turn (hr.mono (by decide : 2 ≤ 2)) (by rfl) pass0 (pa_cons (pv 2) (pa_cons (pv 3) (pa_cons (pv 4) pa_nil)))) pe_int (nomark _)) (pw_and1 (pt_cmpR (qo_eq (K := K) rfl hr.units) (pe_cl G__law_turn (hr.mono (by decide : 2 ≤ 2)) (by rfl) pass0 (pa_cons (pv 2) (pa_cons (pv 3) (pa_cons (pv 5) pa_nil)))) pe_int (nomark _))))) (Evl.pss_cut (ps_set (i := 6) sc__law_is_crossed.nd rfl (.inl rfl) (pe_ifExp (pt_cmpR (qo_ne (K := K) rfl hr.units) (qe_ix (K := K) rfl (pv 2) pe_int) (qe_ix (K := K) rfl (pv 3) pe_int) (nomark _)) pe_int pe_int))
      (pss_cons (ps_par (i := 7) (j := 8) (by rfl) sc__law_is_crossed.nd rfl rfl (by decide) rfl rfl (pa_cons (pe_callB (cr_max2 rfl) (by rfl) T.max (by decide +kernel) (pa_cons (pe_callB (cr_min2 rfl) (by rfl) T.min (by decide +kernel) (pa_cons (qe_ix (K := K) rfl (pv 2) (pv 6)) (pa_cons (qe_ix (K := K) rfl (pv 3) (pv 6)) pa_nil))) (pa_cons (pe_callB (cr_min2 rfl) (by rfl) T.min (by decide +kernel) (pa_cons (qe_ix (K := K) rfl (pv 4) (pv 6)) (pa_cons (qe_ix (K := K) rfl (pv 5) (pv 6)) pa_nil))) pa_nil))) (pa_cons (pe_callB (cr_min2 rfl) (by rfl) T.min (by decide +kernel) (pa_cons (pe_callB (cr_max2 rfl) (by rfl) T.max (by decide +kernel) (pa_cons (qe_ix (K := K) rfl (pv 2) (pv 6)) (pa_cons (qe_ix (K := K) rfl (pv 3) (pv 6)) pa_nil))) (pa_cons (pe_callB (cr_max2 rfl) (by rfl) T.max (by decide +kernel) (pa_cons (qe_ix (K := K) rfl (pv 4) (pv 6)) (pa_cons (qe_ix (K := K) rfl (pv 5) (pv 6)) pa_nil))) pa_nil))) pa_nil)) (by rfl))
      (pss_one (ps_ret (pe_cmpR op_lt (pv 7) (pv 8) (nomark _)))))) pss_nil)
      (pss_one (ps_ret (pe_and (pe_cmpR op_lt (pe_op op_mulW (pe_cl G__law_turn (hr.mono (by decide : 2 ≤ 2)) (by rfl) pass0 (pa_cons (pv 2) (pa_cons (pv 3) (pa_cons (pv 4) pa_nil)))) (pe_cl G__law_turn (hr.mono (by decide : 2 ≤ 2)) (by rfl) pass0 (pa_cons (pv 2) (pa_cons (pv 3) (pa_cons (pv 5) pa_nil))))) pe_int (nomark _)) (pe_one (pe_cmpR op_lt (pe_op op_mulW (pe_cl G__law_turn (hr.mono (by decide : 2 ≤ 2)) (by rfl) pass0 (pa_cons (pv 4) (pa_cons (pv 5) (pa_cons (pv 2) pa_nil)))) (pe_cl G__law_turn (hr.mono (by decide : 2 ≤ 2)) (by rfl) pass0 (pa_cons (pv 4) (pa_cons (pv 5) (pa_cons (pv 3) pa_nil))))) pe_int (nomark _)))))))), fun f hcl => ⟨_, (ss_seq (ss_asg (se_tup (sa_cons (se_op s2_ix se_var se_int) (sa_cons (se_op s2_ix se_var se_int) (sa_cons (se_op s2_ix se_var se_int) (sa_cons (se_op s2_ix se_var se_int) sa_nil))))) (sg_tup (sgs_cons sg_name (sgs_cons sg_name (sgs_cons sg_name (sgs_cons sg_name sgs_nil))))))
      (ss_seq (ss_if (st_and (st_test (se_op s2_eq (se_callF hcl (sa_cons se_var (sa_cons se_var (sa_cons se_var sa_nil)))) se_int)) (st_test (se_op s2_eq (se_callF hcl (sa_cons se_var (sa_cons se_var (sa_cons se_var sa_nil)))) se_int))) (ss_cut (ss_asg (se_if (st_test (se_op s2_ne (se_op s2_ix se_var se_int) (se_op s2_ix se_var se_int))) se_int se_int) sg_name)
      (ss_seq (ss_par (sa_cons (se_cb sn_max2 (sa_cons (se_cb sn_min2 (sa_cons (se_op s2_ix se_var se_var) (sa_cons (se_op s2_ix se_var se_var) sa_nil))) (sa_cons (se_cb sn_min2 (sa_cons (se_op s2_ix se_var se_var) (sa_cons (se_op s2_ix se_var se_var) sa_nil))) sa_nil))) (sa_cons (se_cb sn_min2 (sa_cons (se_cb sn_max2 (sa_cons (se_op s2_ix se_var se_var) (sa_cons (se_op s2_ix se_var se_var) sa_nil))) (sa_cons (se_cb sn_max2 (sa_cons (se_op s2_ix se_var se_var) (sa_cons (se_op s2_ix se_var se_var) sa_nil))) sa_nil))) sa_nil)))
      (ss_ret (se_op s2_lt se_var se_var)))) ss_next)
      (ss_ret (se_and (se_op s2_lt (se_op s2_mul (se_callF hcl (sa_cons se_var (sa_cons se_var (sa_cons se_var sa_nil)))) (se_callF hcl (sa_cons se_var (sa_cons se_var (sa_cons se_var sa_nil))))) se_int) (se_op s2_lt (se_op s2_mul (se_callF hcl (sa_cons se_var (sa_cons se_var (sa_cons se_var sa_nil)))) (se_callF hcl (sa_cons se_var (sa_cons se_var (sa_cons se_var sa_nil))))) se_int))))), fun ds Qd h => ?_⟩⟩
  obtain ⟨n, m, a, b, c, d, e, f, g, h, rfl, ha, hb, hc, hd, hne, q⟩ := h
  have off : ¬ (turnI a b c d e f = 0 ∧ turnI a b c d g h = 0) → (decide (sgn (turnI a b c d e f) * sgn (turnI a b c d g h) < 0) = true → Qd (.bool (decide (sgn (turnI e f g h a b) * sgn (turnI e f g h c d) < 0)))) ∧ (decide (sgn (turnI a b c d e f) * sgn (turnI a b c d g h) < 0) = false → Qd (.bool false)) := fun z => by
    rw [clash_off z] at q
    rw [show decide (sgn (turnI a b c d e f) * sgn (turnI a b c d g h) < 0) = decide (turnI a b c d e f * turnI a b c d g h < 0) from decide_eq_decide.mpr sgn_mul_neg, show decide (sgn (turnI e f g h a b) * sgn (turnI e f g h c d) < 0) = decide (turnI e f g h a b * turnI e f g h c d < 0) from decide_eq_decide.mpr sgn_mul_neg]
    refine ⟨fun y => ?_, fun y => ?_⟩
    · rw [y, Bool.true_and] at q
      exact q
    · rw [y, Bool.false_and] at q
      exact q
  refine ⟨(by show 4 ≤ 1000; decide), rfl, a, b, c, d, e, f, rfl, ha, hb, hc, rfl, rfl, iteB_i (fun z1 => ⟨a, b, c, d, g, h, rfl, ha, hb, hd, rfl, rfl, iteB_i (fun z2 => ?_) (fun z2 => ?_)⟩) (fun z1 => ?_)⟩
  · rw [eqz] at z1 z2
    have z1 := sgn_zero.mp (of_decide_eq_true z1)
    have z2 := sgn_zero.mp (of_decide_eq_true z2)
    rw [clash_line z1 z2] at q
    by_cases hx : a = c
    · rw [over_y hx (by omega) z1 z2] at q
      refine ⟨fun ρ => ρ = [.d (wallD n a b c d), .d (wallD m e f g h), .d (prD a b), .d (prD c d), .d (prD e f), .d (prD g h), .d (.int 1), .any, .any], ⟨rfl, rfl, iteB_f (by rw [eqz, decide_eq_true hx]; rfl) rfl⟩, ?_⟩
      rintro ρ rfl
      exact q
    · rw [over_x hx z1 z2] at q
      refine ⟨fun ρ => ρ = [.d (wallD n a b c d), .d (wallD m e f g h), .d (prD a b), .d (prD c d), .d (prD e f), .d (prD g h), .d (.int 0), .any, .any], ⟨rfl, rfl, iteB_t (by rw [eqz, decide_eq_false hx]; rfl) rfl⟩, ?_⟩
      rintro ρ rfl
      exact q
  · rw [eqz] at z2
    have z := off fun z => of_decide_eq_false z2 (sgn_zero.mpr z.2)
    exact ⟨a, b, c, d, e, f, rfl, ha, hb, hc, a, b, c, d, g, h, rfl, ha, hb, hd, wm (sgn_abs _) (sgn_abs _), iteB_i (fun y => ⟨e, f, g, h, a, b, rfl, hc, hd, ha, e, f, g, h, c, d, rfl, hc, hd, hb, wm (sgn_abs _) (sgn_abs _), z.1 y⟩) (fun y => z.2 y)⟩
  · rw [eqz] at z1
    have z := off fun z => of_decide_eq_false z1 (sgn_zero.mpr z.1)
    exact ⟨a, b, c, d, e, f, rfl, ha, hb, hc, a, b, c, d, g, h, rfl, ha, hb, hd, wm (sgn_abs _) (sgn_abs _), iteB_i (fun y => ⟨e, f, g, h, a, b, rfl, hc, hd, ha, e, f, g, h, c, d, rfl, hc, hd, hb, wm (sgn_abs _) (sgn_abs _), z.1 y⟩) (fun y => z.2 y)⟩
/-! ### _law_are_segments -/
abbrev s__law_are_segments : Stmt := topS 31
theorem sc__law_are_segments : FnScope ["thing", "it"] ["thing"] (defScope s__law_are_segments) := ⟨rfl, rfl, rfl, by decide +kernel, rfl, by decide +kernel, by decide +kernel⟩
def m__law_are_segments : Md := fun ds Q _ => onOne ds fun x => Fit x ∧ Q (.bool (apartB x))
theorem fk__law_are_segments {P : Program} {w : World} {K : PySem.W.Frag} {mg : Str → Option Value} {base : Heap} {cl : Str → Addr} (S : At K mg "_law_are_segments" s__law_are_segments) (T : Blt mg) (G__law_is_segment : Fk P w K mg base CX0 3 "_law_is_segment" ["thing"] (spD false cl m__law_is_segment)) :
    Fk P w K mg base CX0 4 "_law_are_segments" ["thing"] (spD false cl m__law_are_segments) := by
  refine fk_mk0 (n := 1) S sc__law_are_segments (fun f fd F => F.binds fun _ _ _ _ _ _ us hl => (match us, hl with | [_], _ => rfl)) (fun ds Q E h => by
    exact (by first | (replace h := inv_one h; obtain ⟨_, rfl, _⟩ := h; rfl) | (replace h := inv_two h; obtain ⟨_, _, rfl, _⟩ := h; rfl) | (obtain ⟨_, rfl, _⟩ := h; rfl) | (obtain ⟨_, _, rfl, _⟩ := h; rfl) | (obtain ⟨_, _, _, rfl, _⟩ := h; rfl) | (obtain ⟨_, _, _, _, rfl, _⟩ := h; rfl) | (obtain ⟨_, _, _, _, _, rfl, _⟩ := h; rfl) | (obtain ⟨_, _, _, _, _, _, rfl, _⟩ := h; rfl) | (obtain ⟨_, _, _, _, _, _, _, rfl, _⟩ := h; rfl) | (obtain ⟨_, _, _, _, _, _, _, _, rfl, _⟩ := h; rfl) | (obtain ⟨_, _, _, _, _, _, _, _, _, rfl, _⟩ := h; rfl))) rfl fun fa cdv A outer s H E hr => ⟨_, (pss_cons (ps_if (PW.pt (pw_or (pt_not (pt_val (pe_callB (qc_isi (K := K) rfl) (by rfl) T.isinst (by decide +kernel) (pa_cons (pv 0) (pa_cons (pe_bltn (v := .ty "tuple") (by rfl) T.tuple (by decide +kernel) rfl) pa_nil))))) (pw_or1 (pt_cmpR (qo_neNil (K := K) rfl hr.units) (pe_lc (own := [("it", 1)]) rfl sc__law_are_segments.nd (pi_any (K := K) rfl (pv 0)) (blkOk_by (own := [("it", 1)]) (N := ["thing", "it"]) (sc := defScope s__law_are_segments) (by decide +kernel)) (fun _ _ _ _ _ => (pg_name (i := 1) sc__law_are_segments.nd rfl (Or.inl rfl))) (fun _ _ _ _ _ => (pts_one (pt_not (pt_val (pe_cl G__law_is_segment (hr.mono (by decide : 3 ≤ 3)) (by rfl) pass0 (pa_cons (pv 1) pa_nil)))))) (fun _ _ _ _ _ => (pv 1))) (pe_lst pa_nil) (nomark _))))) (pss_one (ps_ret pe_bl)) pss_nil)
      (pss_one (ps_ret (pe_cmpR (qo_eq (K := K) rfl hr.units) (pe_callB call_lenU (by rfl) T.len PySem.boot_len (pa_cons (pe_callTy (qc_setOfU (K := K) rfl rfl) (by rfl) T.set (by decide +kernel) (pa_cons (pe_lc (own := [("it", 1)]) rfl sc__law_are_segments.nd (pi_any (K := K) rfl (pv 0)) (blkOk_by (own := [("it", 1)]) (N := ["thing", "it"]) (sc := defScope s__law_are_segments) (by decide +kernel)) (fun _ _ _ _ _ => (pg_name (i := 1) sc__law_are_segments.nd rfl (Or.inl rfl))) (fun _ _ _ _ _ => pts_nil) (fun _ _ _ _ _ => (qe_ix (K := K) rfl (pv 1) pe_int))) pa_nil)) pa_nil)) (pe_callB (qc_len (K := K) rfl) (by rfl) T.len (by decide +kernel) (pa_cons (pv 0) pa_nil)) (nomark _))))), fun f hcl => ⟨_, (ss_seq (ss_if (st_or (st_not (st_b (se_isi isi_tuple se_var))) (st_test (se_op s2_nil (se_own (seo_lc (si_any se_var) sg_name (by decide) (st_not (st_b (se_callF hcl (sa_cons se_var sa_nil)))) se_var)) (se_lst sa_nil)))) (ss_ret se_bl) ss_next)
      (ss_ret (se_op s2_eq (se_lenSetU (se_own (seo_lc (si_any se_var) sg_name (by decide) st_yes (se_op s2_ix se_var se_int)))) (se_cb sn_len (sa_cons se_var sa_nil))))), fun ds Qd h => ?_⟩⟩
  replace h := inv_one h
  obtain ⟨x, rfl, hs, q⟩ := h
  cases x with
  | tuple xs =>
    have e : apartB (.tuple xs) = (xs.all segB && decide ((xs.map wname).Nodup)) := rfl
    rw [e] at q
    refine ⟨Nat.le_trans (sz_tlen hs) (by decide), comp_flt (fun x => !segB x) _ [] (fun x hx R R0 h => ⟨Fit.mem hs x hx, h⟩) ⟨by decide, iteB_i (fun h1 => ?_) (fun h1 => ?_)⟩⟩
    · have h1 : (!(xs.filter fun x => !segB x).isEmpty) = true := h1
      rw [filt_all] at h1
      have h1 : xs.all segB = false := by simpa using h1
      rw [h1, Bool.false_and] at q
      exact q
    · have h1 : (!(xs.filter fun x => !segB x).isEmpty) = false := h1
      rw [filt_all] at h1
      have h1 : xs.all segB = true := by simpa using h1
      rw [h1, Bool.true_and] at q
      refine ⟨Nat.le_trans (sz_tlen hs) (by decide), comp_map (fun x => kD (wname x)) xs [] (fun x hx k hk => ?_) ⟨by rw [List.nil_append, List.length_map]; exact Nat.le_trans (sz_tlen hs) (by decide), xs.map wname, by rw [List.nil_append, List.map_map]; rfl, rfl, rfl, ?_⟩⟩
      · obtain ⟨wl, rfl, _⟩ := segs_is h1
        obtain ⟨w, _, rfl⟩ := List.mem_map.mp hx
        exact hk
      · rw [← List.length_map (f := wname), uniq_beq]
        exact q
  | _ => exact q
/-! ### _law_fault -/
abbrev s__law_fault : Stmt := topS 32
theorem sc__law_fault : FnScope ["walls", "i", "one", "j"] ["walls"] (defScope s__law_fault) := ⟨rfl, rfl, rfl, by decide +kernel, rfl, by decide +kernel, by decide +kernel⟩
def m__law_fault : Md := fun ds Q _ => ∃ wl : List Wl, ds = [.tuple (wl.map Wl.D)] ∧ wl.length ≤ 3000 ∧ (∀ w ∈ wl, Wl.Ok w) ∧ ∀ r, FirstIs (clashAt wl) wl.length r → Q (firD r)
theorem fk__law_fault {P : Program} {w : World} {K : PySem.W.Frag} {mg : Str → Option Value} {base : Heap} {cl : Str → Addr} (S : At K mg "_law_fault" s__law_fault) (T : Blt mg) (G__law_is_crossed : Fk P w K mg base CX0 3 "_law_is_crossed" ["one", "other"] (spD false cl m__law_is_crossed)) :
    Fk P w K mg base CX0 4 "_law_fault" ["walls"] (spD false cl m__law_fault) := by
  refine fk_mk0 (n := 1) S sc__law_fault (fun f fd F => F.binds fun _ _ _ _ _ _ us hl => (match us, hl with | [_], _ => rfl)) (fun ds Q E h => by
    exact (by first | (replace h := inv_one h; obtain ⟨_, rfl, _⟩ := h; rfl) | (replace h := inv_two h; obtain ⟨_, _, rfl, _⟩ := h; rfl) | (obtain ⟨_, rfl, _⟩ := h; rfl) | (obtain ⟨_, _, rfl, _⟩ := h; rfl) | (obtain ⟨_, _, _, rfl, _⟩ := h; rfl) | (obtain ⟨_, _, _, _, rfl, _⟩ := h; rfl) | (obtain ⟨_, _, _, _, _, rfl, _⟩ := h; rfl) | (obtain ⟨_, _, _, _, _, _, rfl, _⟩ := h; rfl) | (obtain ⟨_, _, _, _, _, _, _, rfl, _⟩ := h; rfl) | (obtain ⟨_, _, _, _, _, _, _, _, rfl, _⟩ := h; rfl) | (obtain ⟨_, _, _, _, _, _, _, _, _, rfl, _⟩ := h; rfl))) rfl fun fa cdv A outer s H E hr => ⟨_, (Evl.pss_cut (ps_for PassesOwn.never rfl (qi_enumA (K := K) rfl (by rfl) T.enum (pa_cons (pv 0) pa_nil)) (qg_tup (K := K) (n := 2) rfl rfl (pgs_cons (pg_name (i := 1) sc__law_fault.nd rfl (.inl rfl)) (pgs_cons (pg_name (i := 2) sc__law_fault.nd rfl (.inl rfl)) pgs_nil))) (pss_one (ps_for PassesOwn.never rfl (pi_range2 (by rfl) T.range (pa_cons (qe_add (K := K) rfl (pv 1) pe_int) (pa_cons (pe_callB (qc_len (K := K) rfl) (by rfl) T.len (by decide +kernel) (pa_cons (pv 0) pa_nil)) pa_nil))) (pg_name (i := 3) sc__law_fault.nd rfl (.inl rfl)) (pss_one (ps_if (pt_val (pe_cl G__law_is_crossed (hr.mono (by decide : 3 ≤ 3)) (by rfl) pass0 (pa_cons (pv 2) (pa_cons (qe_ix (K := K) rfl (pv 0) (pv 3)) pa_nil)))) (pss_one (ps_ret (pe_tup (pa_cons pe_str (pa_cons (pv 1) (pa_cons (pv 3) pa_nil)))))) pss_nil)))))
      (pss_one (ps_ret pe_non))), fun f hcl => ⟨_, (ss_cut (ss_loop (si_enumA (sa_cons se_var sa_nil)) (sg_tup (sgs_cons sg_name (sgs_cons sg_name sgs_nil))) (ss_loop (si_rng2 (sa_cons (se_op s2_add se_var se_int) (sa_cons (se_cb sn_len (sa_cons se_var sa_nil)) sa_nil))) sg_name (ss_if (st_b (se_callF hcl (sa_cons se_var (sa_cons (se_op s2_ix se_var se_var) sa_nil)))) (ss_ret (se_tup (sa_cons se_str (sa_cons se_var (sa_cons se_var sa_nil))))) ss_next)))
      (ss_ret se_non)), fun ds Qd h => ?_⟩⟩
  obtain ⟨wl, rfl, hl, ho, q⟩ := h
  refine ⟨fun ρ => (∃ s t u : Sl, ρ = [.d (.tuple (wl.map Wl.D)), s, t, u]) ∧ FirstIs (clashAt wl) wl.length none, .inr ?_, ?_⟩
  · refine loop_ind (fun r ρ => ∃ (k : Nat) (s t u : Sl), r = enumD k ((wl.drop k).map Wl.D) ∧ ρ = [.d (.tuple (wl.map Wl.D)), s, t, u] ∧ ∀ i j, i < k → i < j → j < wl.length → clashAt wl i j = false) (fun ρ h => ?_) (fun x r ρ h N hN => ?_) _ ⟨0, .any, .any, .any, rfl, rfl, fun i j h => by omega⟩
    · obtain ⟨k, s, t, u, e, rfl, hc⟩ := h
      have := drop_nil (enum_none e)
      exact ⟨⟨s, t, u, rfl⟩, fun i j h1 h2 => hc i j (by omega) h1 h2⟩
    · obtain ⟨k, s, t, u, e, rfl, hc⟩ := h
      obtain ⟨y, ys, e2, rfl, rfl⟩ := enum_at e
      obtain ⟨hk', rfl, rfl⟩ := drop_map e2
      refine ⟨rfl, by omega, by omega, by rw [List.length_map]; omega, by rw [List.length_map]; omega, loop_ind (fun r ρ => ∃ (l : Nat) (t : Sl), r = rngD l (wl.length - l) ∧ k < l ∧ l ≤ wl.length ∧ ρ = [.d (.tuple (wl.map Wl.D)), .d (.int (k : Nat)), .d (wl[k].D), t] ∧ ∀ j, k < j → j < l → clashAt wl k j = false) (fun ρ h => ?_) (fun x r ρ h N2 hN2 => ?_) _ ⟨k + 1, u, ?_, Nat.lt_succ_self _, hk', rfl, fun j h1 h2 => by omega⟩⟩
      · obtain ⟨l, t, e, h1, h2, rfl, hl2⟩ := h
        have := rng_none e
        refine hN _ ⟨k + 1, _, _, t, rfl, rfl, fun i j h3 h4 h5 => ?_⟩
        by_cases z : i = k
        · subst z
          exact hl2 j h4 (by omega)
        · exact hc i j (by omega) h4 h5
      · obtain ⟨l, t, e, h1, h2, rfl, hl2⟩ := h
        obtain ⟨m2, em2, rfl, rfl⟩ := rng_at e
        have hl' : l < wl.length := by omega
        obtain ⟨s1, s2, ne1⟩ := ho _ (List.getElem_mem hk')
        obtain ⟨s3, s4, _⟩ := ho _ (List.getElem_mem hl')
        refine ix_at (at_map hl') ⟨_, _, _, _, _, _, _, _, _, _, rfl, s1, s2, s3, s4, ne1, iteB_i (fun hc2 => ?_) (fun hc2 => ?_)⟩
        · exact ⟨(by show 3 ≤ 1000; decide), q (some (k, l)) ⟨h1, hl', (clash_at hk' hl').trans hc2, fun i j h3 h4 h5 => by
            rcases h5 with h5 | ⟨rfl, h5⟩
            · exact hc i j h5 h3 h4
            · exact hl2 j h3 h5⟩⟩
        · refine hN2 _ ⟨l + 1, _, ?_, by omega, hl', rfl, fun j h3 h4 => ?_⟩
          · rw [show wl.length - (l + 1) = m2 by omega]
            congr 1
          · by_cases z : j = l
            · subst z
              exact (clash_at hk' hl').trans hc2
            · exact hl2 j h3 (by omega)
      · rw [List.length_map]
        congr 1
        omega
  · rintro ρ ⟨⟨s, t, u, rfl⟩, h⟩
    exact q none h
/-! ### _law_is_plan -/
abbrev s__law_is_plan : Stmt := topS 33
theorem sc__law_is_plan : FnScope ["thing"] ["thing"] (defScope s__law_is_plan) := ⟨rfl, rfl, rfl, by decide +kernel, rfl, by decide +kernel, by decide +kernel⟩
def m__law_is_plan : Md := fun ds Q _ => onOne ds fun x => Fit x ∧ Q (.bool (planB x))
theorem fk__law_is_plan {P : Program} {w : World} {K : PySem.W.Frag} {mg : Str → Option Value} {base : Heap} {cl : Str → Addr} (S : At K mg "_law_is_plan" s__law_is_plan) (T : Blt mg) (G__law_are_segments : Fk P w K mg base CX0 4 "_law_are_segments" ["thing"] (spD false cl m__law_are_segments)) (G__law_fault : Fk P w K mg base CX0 4 "_law_fault" ["walls"] (spD false cl m__law_fault)) :
    Fk P w K mg base CX0 5 "_law_is_plan" ["thing"] (spD false cl m__law_is_plan) := by
  refine fk_mk0 (n := 1) S sc__law_is_plan (fun f fd F => F.binds fun _ _ _ _ _ _ us hl => (match us, hl with | [_], _ => rfl)) (fun ds Q E h => by
    exact (by first | (replace h := inv_one h; obtain ⟨_, rfl, _⟩ := h; rfl) | (replace h := inv_two h; obtain ⟨_, _, rfl, _⟩ := h; rfl) | (obtain ⟨_, rfl, _⟩ := h; rfl) | (obtain ⟨_, _, rfl, _⟩ := h; rfl) | (obtain ⟨_, _, _, rfl, _⟩ := h; rfl) | (obtain ⟨_, _, _, _, rfl, _⟩ := h; rfl) | (obtain ⟨_, _, _, _, _, rfl, _⟩ := h; rfl) | (obtain ⟨_, _, _, _, _, _, rfl, _⟩ := h; rfl) | (obtain ⟨_, _, _, _, _, _, _, rfl, _⟩ := h; rfl) | (obtain ⟨_, _, _, _, _, _, _, _, rfl, _⟩ := h; rfl) | (obtain ⟨_, _, _, _, _, _, _, _, _, rfl, _⟩ := h; rfl))) rfl fun fa cdv A outer s H E hr => ⟨_, (pss_one (ps_ret (pe_and (pe_cl G__law_are_segments (hr.mono (by decide : 4 ≤ 4)) (by rfl) pass0 (pa_cons (pv 0) pa_nil)) (pe_one (pe_cmpR op_isN (pe_cl G__law_fault (hr.mono (by decide : 4 ≤ 4)) (by rfl) pass0 (pa_cons (pv 0) pa_nil)) pe_non (nomark _)))))), fun f hcl => ⟨_, (ss_ret (se_and (se_callF hcl (sa_cons se_var sa_nil)) (se_op s2_isN (se_callF hcl (sa_cons se_var sa_nil)) se_non))), fun ds Qd h => ?_⟩⟩
  replace h := inv_one h
  obtain ⟨x, rfl, hs, q⟩ := h
  refine ⟨hs, iteB_i (fun h1 => ?_) (fun h1 => ?_)⟩
  · unfold planB at q
    rw [h1, Bool.true_and] at q
    obtain ⟨wl, rfl, h2⟩ := apart_is h1
    refine ⟨wl, rfl, len_fit hs, ok_fit hs h2, fun r hr => ?_⟩
    rw [wlOf_D, free_first hr] at q
    exact q
  · unfold planB at q
    rw [h1, Bool.false_and] at q
    exact q
end Ey
namespace Ey
open PySem PySem.Spec PyProof.Rows L2
/-! ### _law_pick -/
abbrev s__law_pick : Stmt := topS 22
theorem sc__law_pick : FnScope ["deck", "some"] ["deck", "some"] (defScope s__law_pick) := ⟨rfl, rfl, rfl, by decide +kernel, rfl, by decide +kernel, by decide +kernel⟩
theorem pick_at {xs : List PyData} {Q : PyData → Prop} (q : ∀ x ∈ xs, Q x) {r : Int} (h0 : 0 ≤ r) (h1 : r < xs.length) : onSome (atI xs r) Q := by
  obtain ⟨n, rfl⟩ : ∃ n : Nat, r = n := ⟨r.toNat, by omega⟩
  rw [atI_nn]
  have h : n < xs.length := by omega
  rw [List.getElem?_eq_getElem h]
  exact q _ (List.getElem_mem h)
def m__law_pick : Md := fun ds Q _ => onOne ds fun x => byD x (l := fun xs => 0 < xs.length ∧ xs.length ≤ 1000 ∧ ∀ x ∈ xs, Q x) (t := fun xs => 0 < xs.length ∧ xs.length ≤ 1000 ∧ ∀ x ∈ xs, Q x)
theorem fk__law_pick {P : Program} {w : World} {K : PySem.W.Frag} {mg : Str → Option Value} {base : Heap} {cl : Str → Addr} (S : At K mg "_law_pick" s__law_pick) (T : Blt mg) (G__law_draw : Fk P w K mg base CX0 1 "_law_draw" ["deck", "many"] (spD true cl m__law_draw)) :
    Fk P w K mg base CX0 2 "_law_pick" ["deck", "some"] (spD true cl m__law_pick) := by
  refine fk_mk0 (n := 1) S sc__law_pick (fun f fd F => F.binds fun _ _ _ _ _ _ us hl => (match us, hl with | [_, _], _ => rfl)) (fun ds Q E h => by
    exact (by first | (replace h := inv_one h; obtain ⟨_, rfl, _⟩ := h; rfl) | (replace h := inv_two h; obtain ⟨_, _, rfl, _⟩ := h; rfl) | (obtain ⟨_, rfl, _⟩ := h; rfl) | (obtain ⟨_, _, rfl, _⟩ := h; rfl) | (obtain ⟨_, _, _, rfl, _⟩ := h; rfl) | (obtain ⟨_, _, _, _, rfl, _⟩ := h; rfl) | (obtain ⟨_, _, _, _, _, rfl, _⟩ := h; rfl) | (obtain ⟨_, _, _, _, _, _, rfl, _⟩ := h; rfl) | (obtain ⟨_, _, _, _, _, _, _, rfl, _⟩ := h; rfl) | (obtain ⟨_, _, _, _, _, _, _, _, rfl, _⟩ := h; rfl) | (obtain ⟨_, _, _, _, _, _, _, _, _, rfl, _⟩ := h; rfl))) rfl fun fa cdv A outer s H E hr => ⟨_, (pss_one (ps_ret (qe_ix (K := K) rfl (pv 1) (pe_cl G__law_draw (hr.mono (by decide : 1 ≤ 1)) (by rfl) pass0 (pa_cons (pv 0) (pa_cons (pe_callB (qc_len (K := K) rfl) (by rfl) T.len (by decide +kernel) (pa_cons (pv 1) pa_nil)) pa_nil)))))), fun f hcl => ⟨_, (ss_ret (se_op s2_ix se_var (se_callK hcl (sa_cons (se_cb sn_len (sa_cons se_var sa_nil)) sa_nil)))), fun ds Qd h => ?_⟩⟩
  replace h := inv_one h
  obtain ⟨x, rfl, h⟩ := h
  cases x with
  | list xs =>
    obtain ⟨h0, h1, q⟩ := h
    exact ⟨by omega, Int.lt_of_le_of_lt (show ((xs.length : Nat) : Int) ≤ 1000 by omega) (by decide), fun r r0 r1 => pick_at q r0 r1⟩
  | tuple xs =>
    obtain ⟨h0, h1, q⟩ := h
    exact ⟨by omega, Int.lt_of_le_of_lt (show ((xs.length : Nat) : Int) ≤ 1000 by omega) (by decide), fun r r0 r1 => pick_at q r0 r1⟩
  | _ => exact h.elim
/-! ### _law_moved -/
abbrev s__law_moved : Stmt := topS 35
theorem sc__law_moved : FnScope ["p", "many", "is_mirrored", "scale", "x", "y", "point", "turn_v"] ["p", "many", "is_mirrored", "scale", "x", "y"] (defScope s__law_moved) := ⟨rfl, rfl, rfl, by decide +kernel, rfl, by decide +kernel, by decide +kernel⟩
theorem rng_all {lo : Int} {n : Nat} : ∀ x ∈ rngD lo n, ∃ i : Int, x = .int i ∧ lo ≤ i ∧ i < lo + n := fun x h => by
  unfold rngD at h
  obtain ⟨k, hk, rfl⟩ := List.mem_map.mp h
  rw [List.mem_range] at hk
  exact ⟨_, rfl, by omega, by omega⟩
theorem rng_len (lo : Int) (n : Nat) : (rngD lo n).length = n := by unfold rngD; rw [List.length_map, List.length_range]
def m__law_moved : Md := fun ds Q _ => ∃ (a b : Int) (many : Nat) (mir : Bool) (s x y : Int), ds = [.tuple [.int a, .int b], .int many, .bool mir, .int s, .int x, .int y] ∧ many ≤ 10 ∧ a.natAbs < 2 ^ 400 ∧ b.natAbs < 2 ^ 400 ∧ s.natAbs < 2 ^ 400 ∧
  Q (.tuple [.int ((movI many mir s a b).1 + x), .int ((movI many mir s a b).2 + y)])
theorem fk__law_moved {P : Program} {w : World} {K : PySem.W.Frag} {mg : Str → Option Value} {base : Heap} {cl : Str → Addr} (S : At K mg "_law_moved" s__law_moved) (T : Blt mg) :
    Fk P w K mg base CX0 1 "_law_moved" ["p", "many", "is_mirrored", "scale", "x", "y"] (spD false cl m__law_moved) := by
  refine fk_mk0 (n := 6) S sc__law_moved (fun f fd F => F.binds fun _ _ _ _ _ _ us hl => (match us, hl with | [_, _, _, _, _, _], _ => rfl)) (fun ds Q E h => by
    exact (by first | (replace h := inv_one h; obtain ⟨_, rfl, _⟩ := h; rfl) | (replace h := inv_two h; obtain ⟨_, _, rfl, _⟩ := h; rfl) | (obtain ⟨_, rfl, _⟩ := h; rfl) | (obtain ⟨_, _, rfl, _⟩ := h; rfl) | (obtain ⟨_, _, _, rfl, _⟩ := h; rfl) | (obtain ⟨_, _, _, _, rfl, _⟩ := h; rfl) | (obtain ⟨_, _, _, _, _, rfl, _⟩ := h; rfl) | (obtain ⟨_, _, _, _, _, _, rfl, _⟩ := h; rfl) | (obtain ⟨_, _, _, _, _, _, _, rfl, _⟩ := h; rfl) | (obtain ⟨_, _, _, _, _, _, _, _, rfl, _⟩ := h; rfl) | (obtain ⟨_, _, _, _, _, _, _, _, _, rfl, _⟩ := h; rfl))) rfl fun fa cdv A outer s H E hr => ⟨_, (Evl.pss_cut (ps_set (i := 6) sc__law_moved.nd rfl (.inl rfl) (pe_ifExp (pt_val (pv 2)) (pe_tup (pa_cons (pe_un un_neg (qe_ix (K := K) rfl (pv 0) pe_int)) (pa_cons (qe_ix (K := K) rfl (pv 0) pe_int) pa_nil))) (pv 0)))
      (Evl.pss_cut (ps_for PassesOwn.never rfl (pi_range1 (by rfl) T.range (pa_cons (pv 1) pa_nil)) (pg_name (i := 7) sc__law_moved.nd rfl (.inl rfl)) (pss_one (ps_set (i := 6) sc__law_moved.nd rfl (.inl rfl) (pe_tup (pa_cons (pe_un un_neg (qe_ix (K := K) rfl (pv 6) pe_int)) (pa_cons (qe_ix (K := K) rfl (pv 6) pe_int) pa_nil))))))
      (pss_one (ps_ret (pe_tup (pa_cons (qe_add (K := K) rfl (pe_op op_mulW (qe_ix (K := K) rfl (pv 6) pe_int) (pv 3)) (pv 4)) (pa_cons (qe_add (K := K) rfl (pe_op op_mulW (qe_ix (K := K) rfl (pv 6) pe_int) (pv 3)) (pv 5)) pa_nil))))))), fun f hcl => ⟨_, (ss_cut (ss_asg (se_if (st_b se_var) (se_tup (sa_cons (se_un s1_neg (se_op s2_ix se_var se_int)) (sa_cons (se_op s2_ix se_var se_int) sa_nil))) se_var) sg_name)
      (ss_cut (ss_loop (si_rng1 (sa_cons se_var sa_nil)) sg_name (ss_asg (se_tup (sa_cons (se_un s1_neg (se_op s2_ix se_var se_int)) (sa_cons (se_op s2_ix se_var se_int) sa_nil))) sg_name))
      (ss_ret (se_tup (sa_cons (se_op s2_add (se_op s2_mul (se_op s2_ix se_var se_int) se_var) se_var) (sa_cons (se_op s2_add (se_op s2_mul (se_op s2_ix se_var se_int) se_var) se_var) sa_nil)))))), fun ds Qd h => ?_⟩⟩
  obtain ⟨a, b, many, mir, sc, x, y, rfl, m10, b1, b2, b3, q⟩ := h
  let p0 : Int × Int := if mir = true then (-a, b) else (a, b)
  have hb : p0.1.natAbs < 2 ^ 400 ∧ p0.2.natAbs < 2 ^ 400 := by
    show (if mir = true then (-a, b) else (a, b)).1.natAbs < _ ∧ (if mir = true then (-a, b) else (a, b)).2.natAbs < _
    split
    · exact ⟨by rw [Int.natAbs_neg]; exact b1, b2⟩
    · exact ⟨b1, b2⟩
  let st : Nat → Sl → Env := fun i t => [.d (.tuple [.int a, .int b]), .d (.int many), .d (.bool mir), .d (.int sc), .d (.int x), .d (.int y), .d (.tuple [.int (rotI i p0).1, .int (rotI i p0).2]), t]
  have go : dCut (dFor (dRng1 (dCons (dVar 1) dNil)) (dName 7) (dAsg (dTup (dCons (dUn (fun x Q => onInt x fun i => Q (.int (-i))) (dOp dIxF (dVar 6) (dC (.int 1)))) (dCons (dOp dIxF (dVar 6) (dC (.int 0))) dNil))) (dName 6)))
      (dRet (dTup (dCons (dOp dAddF (dOp (rdI CMulW fun i j => .int (i * j)) (dOp dIxF (dVar 6) (dC (.int 0))) (dVar 3)) (dVar 4)) (dCons (dOp dAddF (dOp (rdI CMulW fun i j => .int (i * j)) (dOp dIxF (dVar 6) (dC (.int 1))) (dVar 3)) (dVar 5)) dNil)))) (dends Qd) (st 0 .any) := by
    refine ⟨fun ρ => ∃ t, ρ = st many t, ?_, ?_⟩
    · refine ⟨by omega, by omega, loop_ind (fun r ρ => ∃ (i : Nat) (t : Sl), r.length + i = many ∧ ρ = st i t) (fun ρ h => ?_) (fun x r ρ h N hN => ?_) _ ⟨0, .any, ?_, rfl⟩⟩
      · obtain ⟨i, t, h, rfl⟩ := h
        have : i = many := by simpa using h
        exact ⟨t, by rw [this]⟩
      · obtain ⟨i, t, h, rfl⟩ := h
        exact ⟨(by show 2 ≤ 1000; decide), hN _ ⟨i + 1, _, by rw [List.length_cons] at h; omega, rfl⟩⟩
      · rw [rng_len]
        omega
    · rintro ρ ⟨t, rfl⟩
      obtain ⟨c1, c2⟩ := rot_abs (n := many) hb.1 hb.2
      exact ⟨wm c1 b3, wm c2 b3, (by show 2 ≤ 1000; decide), q⟩
  cases mir with
  | true => exact ⟨fun ρ => ρ = st 0 .any, ⟨(by show 2 ≤ 1000; decide), rfl⟩, fun ρ e => e ▸ go⟩
  | false => exact ⟨fun ρ => ρ = st 0 .any, rfl, fun ρ e => e ▸ go⟩
/-! ### _law_any -/
abbrev s__law_any : Stmt := topS 24
theorem sc__law_any : FnScope ["deck", "deep", "way", "some", "turn_v"] ["deck", "deep"] (defScope s__law_any) := ⟨rfl, rfl, rfl, by decide +kernel, rfl, by decide +kernel, by decide +kernel⟩
def mr__law_any : Nat → Md := fun k ds Q _ => ∃ deep : Int, ds = [.int deep] ∧ deep ≤ k ∧ ∀ x, Sz (bigN k) (2 * k + 2) x → (∀ z, x = .str z → Tx 200 12 z) → Q x
def mp__law_any : Nat → Md
  | 0 => fun _ _ _ => False
  | k + 1 => mr__law_any k
def m__law_any : Md := mr__law_any 3
theorem fs__law_any {P : Program} {w : World} {K : PySem.W.Frag} {mg : Str → Option Value} {base : Heap} {cl : Str → Addr} (S : At K mg "_law_any" s__law_any) (T : Blt mg) (G__law_draw : Fk P w K mg base CX0 1 "_law_draw" ["deck", "many"] (spD true cl m__law_draw)) (G__law_pick : Fk P w K mg base CX0 2 "_law_pick" ["deck", "some"] (spD true cl m__law_pick)) (k : Nat) (G__law_any : Fk P w K mg base CX0 (2 + k) "_law_any" ["deck", "deep"] (spD true cl (mp__law_any k))) :
    Fk P w K mg base CX0 (2 + k + 1) "_law_any" ["deck", "deep"] (spD true cl (mr__law_any k)) := by
  refine fk_mk0 (n := 1) S sc__law_any (fun f fd F => F.binds fun _ _ _ _ _ _ us hl => (match us, hl with | [_, _], _ => rfl)) (fun ds Q E h => by
    obtain ⟨_, rfl, _⟩ := h
    rfl) rfl fun fa cdv A outer s H E hr => ⟨_, (pss_cons (ps_set (i := 2) sc__law_any.nd rfl (.inl rfl) (pe_cl G__law_draw (hr.mono (by omega : 1 ≤ 2 + k)) (by rfl) pass0 (pa_cons (pv 0) (pa_cons pe_int pa_nil))))
      (pss_cons (ps_if (pt_cmpR op_lt (pv 2) pe_int (nomark _)) (pss_one (ps_ret (pe_cl G__law_pick (hr.mono (by omega : 2 ≤ 2 + k)) (by rfl) pass0 (pa_cons (pv 0) (pa_cons (pe_lst (pa_cons pe_int (pa_cons pe_int (pa_cons (pe_un un_neg pe_int) (pa_cons pe_int (pa_cons (pe_op op_pow pe_int pe_int) (pa_cons (pe_un un_neg (pe_op op_pow pe_int pe_int)) (pa_cons pe_int (pa_cons pe_int pa_nil))))))))) pa_nil))))) pss_nil)
      (pss_cons (ps_if (pt_cmpR op_lt (pv 2) pe_int (nomark _)) (pss_one (ps_ret (pe_cl G__law_pick (hr.mono (by omega : 2 ≤ 2 + k)) (by rfl) pass0 (pa_cons (pv 0) (pa_cons (pe_lst (pa_cons pe_str (pa_cons pe_str (pa_cons pe_str (pa_cons pe_str (pa_cons pe_str (pa_cons pe_str pa_nil))))))) pa_nil))))) pss_nil)
      (pss_cons (ps_if (pt_cmpR (qo_eq (K := K) rfl hr.units) (pv 2) pe_int (nomark _)) (pss_one (ps_ret (pe_cl G__law_pick (hr.mono (by omega : 2 ≤ 2 + k)) (by rfl) pass0 (pa_cons (pv 0) (pa_cons (pe_lst (pa_cons pe_bl (pa_cons pe_bl (pa_cons pe_non pa_nil)))) pa_nil))))) pss_nil)
      (Evl.pss_cut (ps_set (i := 3) sc__law_any.nd rfl (.inl rfl) (pe_ifExp (pt_cmpR op_gt (pv 1) pe_int (nomark _)) (pe_lc (own := [("turn_v", 4)]) rfl sc__law_any.nd (pi_range1 (by rfl) T.range (pa_cons (pe_cl G__law_draw (hr.mono (by omega : 1 ≤ 2 + k)) (by rfl) pass0 (pa_cons (pv 0) (pa_cons pe_int pa_nil))) pa_nil)) (blkOk_by (own := [("turn_v", 4)]) (N := ["deck", "deep", "way", "some", "turn_v"]) (sc := defScope s__law_any) (by decide +kernel)) (fun _ _ _ _ _ => (pg_name (i := 4) sc__law_any.nd rfl (Or.inl rfl))) (fun _ _ _ _ _ => pts_nil) (fun _ _ _ _ _ => (pe_cl G__law_any (hr.mono (by omega : 2 + k ≤ 2 + k)) (by rfl) pass0 (pa_cons (pv 0) (pa_cons (pe_op op_sub (pv 1) pe_int) pa_nil))))) (pe_lst pa_nil)))
      (pss_cons (ps_if (pt_cmpR (qo_eq (K := K) rfl hr.units) (pv 2) pe_int (nomark _)) (pss_one (ps_ret (pv 3))) pss_nil)
      (pss_one (ps_ret (pe_ifExp (pt_cmpR (qo_eq (K := K) rfl hr.units) (pv 2) pe_int (nomark _)) (pe_disp (pps_cons pe_str (pv 3) (pps_cons pe_int (pe_callB (qc_len (K := K) rfl) (by rfl) T.len (by decide +kernel) (pa_cons (pv 3) pa_nil)) pps_nil)) (by rfl) (by rfl) (fun z => by cases z) (by decide)) (pe_callTy (qc_tuple (K := K) rfl) (by rfl) T.tuple (by decide +kernel) (pa_cons (pv 3) pa_nil))))))))))), fun f hcl => ⟨_, (ss_seq (ss_asg (se_callK hcl (sa_cons se_int sa_nil)) sg_name)
      (ss_seq (ss_if (st_test (se_op s2_lt se_var se_int)) (ss_ret (se_callK hcl (sa_cons (se_lst (sa_cons se_int (sa_cons se_int (sa_cons (se_un s1_neg se_int) (sa_cons se_int (sa_cons (se_op s2_pow se_int se_int) (sa_cons (se_un s1_neg (se_op s2_pow se_int se_int)) (sa_cons se_int (sa_cons se_int sa_nil))))))))) sa_nil))) ss_next)
      (ss_seq (ss_if (st_test (se_op s2_lt se_var se_int)) (ss_ret (se_callK hcl (sa_cons (se_lst (sa_cons se_str (sa_cons se_str (sa_cons se_str (sa_cons se_str (sa_cons se_str (sa_cons se_str sa_nil))))))) sa_nil))) ss_next)
      (ss_seq (ss_if (st_test (se_op s2_eq se_var se_int)) (ss_ret (se_callK hcl (sa_cons (se_lst (sa_cons se_bl (sa_cons se_bl (sa_cons se_non sa_nil)))) sa_nil))) ss_next)
      (ss_cut (ss_asg (se_if (st_test (se_op s2_gt se_var se_int)) (se_own (seo_lc (si_rng1 (sa_cons (se_callK hcl (sa_cons se_int sa_nil)) sa_nil)) sg_name (by decide) st_yes (se_callK hcl (sa_cons (se_op s2_sub se_var se_int) sa_nil)))) (se_lst sa_nil)) sg_name)
      (ss_seq (ss_if (st_test (se_op s2_eq se_var se_int)) (ss_ret se_var) ss_next)
      (ss_ret (se_if (st_test (se_op s2_eq se_var se_int)) (se_disp fun _ => (sps_cons (k := (Sum.inr (("key" : Str)) : L2.Key)) se_var (sps_cons (k := (Sum.inl (1) : L2.Key)) (se_cb sn_len (sa_cons se_var sa_nil)) sps_nil))) (se_cb sn_tupleOf (sa_cons se_var sa_nil)))))))))), fun ds Qd h => ?_⟩⟩
  obtain ⟨deep, rfl, hd, q⟩ := h
  have qi : ∀ {i : Int}, i.natAbs < 2 ^ 250 → Qd (.int i) := fun h => q _ ((sz_int h).mono (Nat.zero_le _) (Nat.zero_le _)) fun z e => by cases e
  have qs : ∀ {x : Str}, (x.cps.toList.all fun c => decide (c < 16 ^ 8)) = true → x.cps.size ≤ 7 → litB 200 12 x = true → Qd (.str x) := fun h h2 h3 => q _ ((sz_str h h2).mono (bigN_ge k) (Nat.zero_le _)) fun z e => by
    cases e
    exact tx_lit h3
  refine ⟨by decide, by decide, fun r r0 r1 => iteB_i (fun c1 => ?_) (fun c1 => iteB_i (fun c2 => ?_) (fun c2 => ⟨rfl, rfl, iteB_i (fun c3 => ?_) (fun c3 => ?_)⟩))⟩
  · refine ⟨⟨by decide, by decide, by decide⟩, ⟨by decide, by decide, by decide⟩, (by show 8 ≤ 1000; decide), (by show 0 < 8; decide), (by show 8 ≤ 1000; decide), ?_⟩
    exact allc (qi (by decide)) (allc (qi (by decide)) (allc (qi (by decide)) (allc (qi (by decide)) (allc (qi (by decide +kernel)) (allc (qi (by decide +kernel)) (allc (qi (by decide)) (allc (qi (by decide)) alln)))))))
  · refine ⟨(by show 6 ≤ 1000; decide), (by show 0 < 6; decide), (by show 6 ≤ 1000; decide), ?_⟩
    exact allc (qs (by decide +kernel) (by decide +kernel) (by decide +kernel)) (allc (qs (by decide +kernel) (by decide +kernel) (by decide +kernel)) (allc (qs (by decide +kernel) (by decide +kernel) (by decide +kernel)) (allc (qs (by decide +kernel) (by decide +kernel) (by decide +kernel)) (allc (qs (by decide +kernel) (by decide +kernel) (by decide +kernel)) (allc (qs (by decide +kernel) (by decide +kernel) (by decide +kernel)) alln)))))
  · refine ⟨(by show 3 ≤ 1000; decide), (by show 0 < 3; decide), (by show 3 ≤ 1000; decide), ?_⟩
    exact allc (q _ ((sz_bool _).mono (Nat.zero_le _) (Nat.zero_le _)) fun z e => by cases e) (allc (q _ ((sz_bool _).mono (Nat.zero_le _) (Nat.zero_le _)) fun z e => by cases e) (allc (q _ (sz_none.mono (Nat.zero_le _) (Nat.zero_le _)) fun z e => by cases e) alln))
  · refine ⟨fun ρ => ∃ (es : List PyData) (t : Sl), ρ = [.dk, .d (.int deep), .d (.int r), .d (.list es), t] ∧ es.length ≤ 3 ∧ SzA (bigN k - 7) (2 * k) es, iteB_i (fun c4 => ?_) (fun c4 => ?_), ?_⟩
    · have c4 : 0 < deep := of_decide_eq_true c4
      refine ⟨by decide, by decide, fun t t0 t1 => ⟨by omega, by omega, by rw [rngD, List.length_map, List.length_range]; omega, comp_each (fun y => Sz (bigN (k - 1)) (2 * (k - 1) + 2) y) _ [] (fun x hx kk hk => ?_) (fun ys hl hp => ?_)⟩⟩
      · cases k with
        | zero => exact absurd hd (by omega)
        | succ k' => exact ⟨deep - 1, rfl, by omega, fun y hy _ => hk y hy⟩
      · rw [rngD, List.length_map, List.length_range] at hl
        have hl3 : ys.length ≤ 3 := by omega
        refine ⟨ys, .any, rfl, hl3, ?_⟩
        cases k with
        | zero => exact absurd hd (by omega)
        | succ k' =>
          have hz := sza_of hp
          have hb : bigN (k' + 1) = 3 * (bigN k' + 1) + 7 := rfl
          refine hz.mono ?_ (by omega)
          show (bigN (k' + 1 - 1) + 1) * ys.length ≤ _
          rw [show k' + 1 - 1 = k' by omega]
          have := Nat.mul_le_mul_left (bigN k' + 1) hl3
          omega
    · exact ⟨by decide, [], .any, rfl, by decide, sza_nil.mono (Nat.zero_le _) (Nat.zero_le _)⟩
    · rintro ρ ⟨es, t, rfl, hl, hz⟩
      have hb := bigN_ge k
      refine ⟨rfl, rfl, iteB_i (fun c5 => ?_) (fun c5 => ⟨rfl, rfl, iteB_i (fun c6 => ?_) (fun c6 => ?_)⟩)⟩
      · exact q _ (hz.list.mono (by omega) (by omega)) fun z e => by cases e
      · refine ⟨?_, (by show 2 ≤ 15; decide), q _ ((sz_dictKL hz es.length (by omega)).mono (by omega) (by omega)) fun z e => by cases e⟩
        show ([Sum.inr ("key" : Str), Sum.inl 1] : List Ky).Nodup
        decide +kernel
      · exact q _ (hz.tuple.mono (by omega) (by omega)) fun z e => by cases e
theorem fr__law_any {P : Program} {w : World} {K : PySem.W.Frag} {mg : Str → Option Value} {base : Heap} {cl : Str → Addr} (S : At K mg "_law_any" s__law_any) (T : Blt mg) (G__law_draw : Fk P w K mg base CX0 1 "_law_draw" ["deck", "many"] (spD true cl m__law_draw)) (G__law_pick : Fk P w K mg base CX0 2 "_law_pick" ["deck", "some"] (spD true cl m__law_pick)) :
    ∀ k, Fk P w K mg base CX0 (2 + k + 1) "_law_any" ["deck", "deep"] (spD true cl (mr__law_any k))
  | 0 => fs__law_any S T G__law_draw G__law_pick 0 (fk_never S (fun f fd F => F.binds fun _ _ _ _ _ _ us hl => (match us, hl with | [_, _], _ => rfl)) fun _ _ _ h => h)
  | k + 1 => fs__law_any S T G__law_draw G__law_pick (k + 1) (fr__law_any S T G__law_draw G__law_pick k)
theorem fk__law_any {P : Program} {w : World} {K : PySem.W.Frag} {mg : Str → Option Value} {base : Heap} {cl : Str → Addr} (S : At K mg "_law_any" s__law_any) (T : Blt mg) (G__law_draw : Fk P w K mg base CX0 1 "_law_draw" ["deck", "many"] (spD true cl m__law_draw)) (G__law_pick : Fk P w K mg base CX0 2 "_law_pick" ["deck", "some"] (spD true cl m__law_pick)) :
    Fk P w K mg base CX0 6 "_law_any" ["deck", "deep"] (spD true cl m__law_any) := fr__law_any S T G__law_draw G__law_pick 3
/-! ### _law_layouts -/
abbrev s__law_layouts : Stmt := topS 34
theorem sc__law_layouts : FnScope ["found"] [] (defScope s__law_layouts) := ⟨rfl, rfl, rfl, by decide +kernel, rfl, by decide +kernel, by decide +kernel⟩
def m__law_layouts : Md := fun ds Q _ => ds = [] ∧ ∀ x, layP x = true → Q x
theorem fk__law_layouts {P : Program} {w : World} {K : PySem.W.Frag} {mg : Str → Option Value} {base : Heap} {cl : Str → Addr} (S : At K mg "_law_layouts" s__law_layouts) (T : Blt mg) :
    Fk P w K mg base CX0 1 "_law_layouts" [] (spD false cl m__law_layouts) := by
  refine fk_mk0 (n := 0) S sc__law_layouts (fun f fd F => F.binds fun _ _ _ _ _ _ us hl => (match us, hl with | [], _ => rfl)) (fun ds Q E h => by
    rw [h.1]
    rfl) rfl fun fa cdv A outer s H E hr => ⟨_, (pss_cons (ps_set (i := 0) sc__law_layouts.nd rfl (.inl rfl) (pe_lst (pa_cons (pe_tup (pa_cons (pe_tup (pa_cons (pe_tup (pa_cons pe_int (pa_cons pe_int pa_nil))) (pa_cons (pe_tup (pa_cons pe_int (pa_cons pe_int pa_nil))) pa_nil))) (pa_cons (pe_tup (pa_cons (pe_tup (pa_cons pe_int (pa_cons pe_int pa_nil))) (pa_cons (pe_tup (pa_cons pe_int (pa_cons pe_int pa_nil))) pa_nil))) (pa_cons (pe_tup (pa_cons (pe_tup (pa_cons pe_int (pa_cons pe_int pa_nil))) (pa_cons (pe_tup (pa_cons pe_int (pa_cons pe_int pa_nil))) pa_nil))) (pa_cons (pe_tup (pa_cons (pe_tup (pa_cons pe_int (pa_cons pe_int pa_nil))) (pa_cons (pe_tup (pa_cons pe_int (pa_cons pe_int pa_nil))) pa_nil))) (pa_cons (pe_tup (pa_cons (pe_tup (pa_cons pe_int (pa_cons pe_int pa_nil))) (pa_cons (pe_tup (pa_cons pe_int (pa_cons pe_int pa_nil))) pa_nil))) (pa_cons (pe_tup (pa_cons (pe_tup (pa_cons pe_int (pa_cons pe_int pa_nil))) (pa_cons (pe_tup (pa_cons pe_int (pa_cons pe_int pa_nil))) pa_nil))) pa_nil))))))) pa_nil)))
      (pss_cons (ps_expr (qe_append (K := K) rfl (pv 0) (pa_cons (pe_tup (pa_cons (pe_tup (pa_cons (pe_tup (pa_cons pe_int (pa_cons pe_int pa_nil))) (pa_cons (pe_tup (pa_cons pe_int (pa_cons pe_int pa_nil))) pa_nil))) (pa_cons (pe_tup (pa_cons (pe_tup (pa_cons pe_int (pa_cons pe_int pa_nil))) (pa_cons (pe_tup (pa_cons pe_int (pa_cons pe_int pa_nil))) pa_nil))) (pa_cons (pe_tup (pa_cons (pe_tup (pa_cons pe_int (pa_cons pe_int pa_nil))) (pa_cons (pe_tup (pa_cons pe_int (pa_cons pe_int pa_nil))) pa_nil))) (pa_cons (pe_tup (pa_cons (pe_tup (pa_cons pe_int (pa_cons pe_int pa_nil))) (pa_cons (pe_tup (pa_cons pe_int (pa_cons pe_int pa_nil))) pa_nil))) (pa_cons (pe_tup (pa_cons (pe_tup (pa_cons pe_int (pa_cons pe_int pa_nil))) (pa_cons (pe_tup (pa_cons pe_int (pa_cons pe_int pa_nil))) pa_nil))) (pa_cons (pe_tup (pa_cons (pe_tup (pa_cons pe_int (pa_cons pe_int pa_nil))) (pa_cons (pe_tup (pa_cons pe_int (pa_cons pe_int pa_nil))) pa_nil))) pa_nil))))))) pa_nil)))
      (pss_cons (ps_expr (qe_append (K := K) rfl (pv 0) (pa_cons (pe_tup (pa_cons (pe_tup (pa_cons (pe_tup (pa_cons (pe_un un_neg pe_int) (pa_cons pe_int pa_nil))) (pa_cons (pe_tup (pa_cons pe_int (pa_cons pe_int pa_nil))) pa_nil))) (pa_cons (pe_tup (pa_cons (pe_tup (pa_cons pe_int (pa_cons pe_int pa_nil))) (pa_cons (pe_tup (pa_cons pe_int (pa_cons (pe_un un_neg pe_int) pa_nil))) pa_nil))) (pa_cons (pe_tup (pa_cons (pe_tup (pa_cons pe_int (pa_cons (pe_un un_neg pe_int) pa_nil))) (pa_cons (pe_tup (pa_cons (pe_un un_neg pe_int) (pa_cons (pe_un un_neg pe_int) pa_nil))) pa_nil))) (pa_cons (pe_tup (pa_cons (pe_tup (pa_cons (pe_un un_neg pe_int) (pa_cons (pe_un un_neg pe_int) pa_nil))) (pa_cons (pe_tup (pa_cons (pe_un un_neg pe_int) (pa_cons pe_int pa_nil))) pa_nil))) (pa_cons (pe_tup (pa_cons (pe_tup (pa_cons (pe_un un_neg pe_int) (pa_cons pe_int pa_nil))) (pa_cons (pe_tup (pa_cons pe_int (pa_cons pe_int pa_nil))) pa_nil))) pa_nil)))))) pa_nil)))
      (pss_cons (ps_expr (qe_append (K := K) rfl (pv 0) (pa_cons (pe_tup (pa_cons (pe_tup (pa_cons (pe_tup (pa_cons (pe_un un_neg pe_int) (pa_cons pe_int pa_nil))) (pa_cons (pe_tup (pa_cons pe_int (pa_cons pe_int pa_nil))) pa_nil))) (pa_cons (pe_tup (pa_cons (pe_tup (pa_cons pe_int (pa_cons pe_int pa_nil))) (pa_cons (pe_tup (pa_cons pe_int (pa_cons pe_int pa_nil))) pa_nil))) (pa_cons (pe_tup (pa_cons (pe_tup (pa_cons pe_int (pa_cons pe_int pa_nil))) (pa_cons (pe_tup (pa_cons pe_int (pa_cons (pe_un un_neg pe_int) pa_nil))) pa_nil))) (pa_cons (pe_tup (pa_cons (pe_tup (pa_cons (pe_un un_neg pe_int) (pa_cons (pe_un un_neg pe_int) pa_nil))) (pa_cons (pe_tup (pa_cons (pe_un un_neg pe_int) (pa_cons pe_int pa_nil))) pa_nil))) (pa_cons (pe_tup (pa_cons (pe_tup (pa_cons pe_int (pa_cons pe_int pa_nil))) (pa_cons (pe_tup (pa_cons pe_int (pa_cons pe_int pa_nil))) pa_nil))) (pa_cons (pe_tup (pa_cons (pe_tup (pa_cons (pe_un un_neg pe_int) (pa_cons pe_int pa_nil))) (pa_cons (pe_tup (pa_cons (pe_un un_neg pe_int) (pa_cons pe_int pa_nil))) pa_nil))) pa_nil))))))) pa_nil)))
      (pss_cons (ps_expr (qe_append (K := K) rfl (pv 0) (pa_cons (pe_tup (pa_cons (pe_tup (pa_cons (pe_tup (pa_cons (pe_un un_neg pe_int) (pa_cons pe_int pa_nil))) (pa_cons (pe_tup (pa_cons (pe_un un_neg pe_int) (pa_cons pe_int pa_nil))) pa_nil))) (pa_cons (pe_tup (pa_cons (pe_tup (pa_cons (pe_un un_neg pe_int) (pa_cons pe_int pa_nil))) (pa_cons (pe_tup (pa_cons pe_int (pa_cons pe_int pa_nil))) pa_nil))) (pa_cons (pe_tup (pa_cons (pe_tup (pa_cons pe_int (pa_cons pe_int pa_nil))) (pa_cons (pe_tup (pa_cons pe_int (pa_cons pe_int pa_nil))) pa_nil))) (pa_cons (pe_tup (pa_cons (pe_tup (pa_cons pe_int (pa_cons pe_int pa_nil))) (pa_cons (pe_tup (pa_cons pe_int (pa_cons pe_int pa_nil))) pa_nil))) (pa_cons (pe_tup (pa_cons (pe_tup (pa_cons (pe_un un_neg pe_int) (pa_cons pe_int pa_nil))) (pa_cons (pe_tup (pa_cons (pe_un un_neg pe_int) (pa_cons pe_int pa_nil))) pa_nil))) (pa_cons (pe_tup (pa_cons (pe_tup (pa_cons pe_int (pa_cons (pe_un un_neg pe_int) pa_nil))) (pa_cons (pe_tup (pa_cons pe_int (pa_cons (pe_un un_neg pe_int) pa_nil))) pa_nil))) pa_nil))))))) pa_nil)))
      (pss_cons (ps_expr (qe_append (K := K) rfl (pv 0) (pa_cons (pe_tup (pa_cons (pe_tup (pa_cons (pe_tup (pa_cons pe_int (pa_cons pe_int pa_nil))) (pa_cons (pe_tup (pa_cons pe_int (pa_cons pe_int pa_nil))) pa_nil))) (pa_cons (pe_tup (pa_cons (pe_tup (pa_cons pe_int (pa_cons pe_int pa_nil))) (pa_cons (pe_tup (pa_cons pe_int (pa_cons pe_int pa_nil))) pa_nil))) (pa_cons (pe_tup (pa_cons (pe_tup (pa_cons pe_int (pa_cons pe_int pa_nil))) (pa_cons (pe_tup (pa_cons (pe_un un_neg pe_int) (pa_cons pe_int pa_nil))) pa_nil))) (pa_cons (pe_tup (pa_cons (pe_tup (pa_cons pe_int (pa_cons pe_int pa_nil))) (pa_cons (pe_tup (pa_cons (pe_un un_neg pe_int) (pa_cons (pe_un un_neg pe_int) pa_nil))) pa_nil))) (pa_cons (pe_tup (pa_cons (pe_tup (pa_cons pe_int (pa_cons (pe_un un_neg pe_int) pa_nil))) (pa_cons (pe_tup (pa_cons pe_int (pa_cons (pe_un un_neg pe_int) pa_nil))) pa_nil))) (pa_cons (pe_tup (pa_cons (pe_tup (pa_cons pe_int (pa_cons pe_int pa_nil))) (pa_cons (pe_tup (pa_cons pe_int (pa_cons pe_int pa_nil))) pa_nil))) pa_nil))))))) pa_nil)))
      (pss_cons (ps_expr (qe_append (K := K) rfl (pv 0) (pa_cons (pe_tup (pa_cons (pe_tup (pa_cons (pe_tup (pa_cons pe_int (pa_cons pe_int pa_nil))) (pa_cons (pe_tup (pa_cons pe_int (pa_cons pe_int pa_nil))) pa_nil))) (pa_cons (pe_tup (pa_cons (pe_tup (pa_cons pe_int (pa_cons pe_int pa_nil))) (pa_cons (pe_tup (pa_cons (pe_un un_neg pe_int) (pa_cons pe_int pa_nil))) pa_nil))) (pa_cons (pe_tup (pa_cons (pe_tup (pa_cons (pe_un un_neg pe_int) (pa_cons pe_int pa_nil))) (pa_cons (pe_tup (pa_cons (pe_un un_neg pe_int) (pa_cons (pe_un un_neg pe_int) pa_nil))) pa_nil))) (pa_cons (pe_tup (pa_cons (pe_tup (pa_cons pe_int (pa_cons (pe_un un_neg pe_int) pa_nil))) (pa_cons (pe_tup (pa_cons pe_int (pa_cons (pe_un un_neg pe_int) pa_nil))) pa_nil))) (pa_cons (pe_tup (pa_cons (pe_tup (pa_cons pe_int (pa_cons pe_int pa_nil))) (pa_cons (pe_tup (pa_cons pe_int (pa_cons pe_int pa_nil))) pa_nil))) (pa_cons (pe_tup (pa_cons (pe_tup (pa_cons (pe_un un_neg pe_int) (pa_cons pe_int pa_nil))) (pa_cons (pe_tup (pa_cons (pe_un un_neg pe_int) (pa_cons pe_int pa_nil))) pa_nil))) pa_nil))))))) pa_nil)))
      (pss_cons (ps_expr (qe_append (K := K) rfl (pv 0) (pa_cons (pe_tup (pa_cons (pe_tup (pa_cons (pe_tup (pa_cons pe_int (pa_cons pe_int pa_nil))) (pa_cons (pe_tup (pa_cons pe_int (pa_cons pe_int pa_nil))) pa_nil))) (pa_cons (pe_tup (pa_cons (pe_tup (pa_cons pe_int (pa_cons pe_int pa_nil))) (pa_cons (pe_tup (pa_cons pe_int (pa_cons pe_int pa_nil))) pa_nil))) (pa_cons (pe_tup (pa_cons (pe_tup (pa_cons pe_int (pa_cons pe_int pa_nil))) (pa_cons (pe_tup (pa_cons pe_int (pa_cons pe_int pa_nil))) pa_nil))) (pa_cons (pe_tup (pa_cons (pe_tup (pa_cons (pe_un un_neg pe_int) (pa_cons pe_int pa_nil))) (pa_cons (pe_tup (pa_cons (pe_un un_neg pe_int) (pa_cons pe_int pa_nil))) pa_nil))) (pa_cons (pe_tup (pa_cons (pe_tup (pa_cons pe_int (pa_cons pe_int pa_nil))) (pa_cons (pe_tup (pa_cons pe_int (pa_cons pe_int pa_nil))) pa_nil))) (pa_cons (pe_tup (pa_cons (pe_tup (pa_cons (pe_un un_neg pe_int) (pa_cons (pe_un un_neg pe_int) pa_nil))) (pa_cons (pe_tup (pa_cons pe_int (pa_cons (pe_un un_neg pe_int) pa_nil))) pa_nil))) pa_nil))))))) pa_nil)))
      (pss_cons (ps_expr (qe_append (K := K) rfl (pv 0) (pa_cons (pe_tup (pa_cons (pe_tup (pa_cons (pe_tup (pa_cons pe_int (pa_cons pe_int pa_nil))) (pa_cons (pe_tup (pa_cons pe_int (pa_cons pe_int pa_nil))) pa_nil))) (pa_cons (pe_tup (pa_cons (pe_tup (pa_cons pe_int (pa_cons pe_int pa_nil))) (pa_cons (pe_tup (pa_cons pe_int (pa_cons pe_int pa_nil))) pa_nil))) (pa_cons (pe_tup (pa_cons (pe_tup (pa_cons pe_int (pa_cons pe_int pa_nil))) (pa_cons (pe_tup (pa_cons pe_int (pa_cons pe_int pa_nil))) pa_nil))) (pa_cons (pe_tup (pa_cons (pe_tup (pa_cons pe_int (pa_cons pe_int pa_nil))) (pa_cons (pe_tup (pa_cons pe_int (pa_cons pe_int pa_nil))) pa_nil))) (pa_cons (pe_tup (pa_cons (pe_tup (pa_cons pe_int (pa_cons pe_int pa_nil))) (pa_cons (pe_tup (pa_cons pe_int (pa_cons pe_int pa_nil))) pa_nil))) (pa_cons (pe_tup (pa_cons (pe_tup (pa_cons (pe_un un_neg pe_int) (pa_cons pe_int pa_nil))) (pa_cons (pe_tup (pa_cons (pe_un un_neg pe_int) (pa_cons pe_int pa_nil))) pa_nil))) pa_nil))))))) pa_nil)))
      (pss_cons (ps_expr (qe_append (K := K) rfl (pv 0) (pa_cons (pe_tup (pa_cons (pe_tup (pa_cons (pe_tup (pa_cons (pe_un un_neg pe_int) (pa_cons pe_int pa_nil))) (pa_cons (pe_tup (pa_cons pe_int (pa_cons pe_int pa_nil))) pa_nil))) (pa_cons (pe_tup (pa_cons (pe_tup (pa_cons (pe_un un_neg pe_int) (pa_cons pe_int pa_nil))) (pa_cons (pe_tup (pa_cons (pe_un un_neg pe_int) (pa_cons pe_int pa_nil))) pa_nil))) (pa_cons (pe_tup (pa_cons (pe_tup (pa_cons pe_int (pa_cons pe_int pa_nil))) (pa_cons (pe_tup (pa_cons pe_int (pa_cons pe_int pa_nil))) pa_nil))) (pa_cons (pe_tup (pa_cons (pe_tup (pa_cons (pe_un un_neg pe_int) (pa_cons pe_int pa_nil))) (pa_cons (pe_tup (pa_cons pe_int (pa_cons pe_int pa_nil))) pa_nil))) (pa_cons (pe_tup (pa_cons (pe_tup (pa_cons pe_int (pa_cons (pe_un un_neg pe_int) pa_nil))) (pa_cons (pe_tup (pa_cons pe_int (pa_cons (pe_un un_neg pe_int) pa_nil))) pa_nil))) (pa_cons (pe_tup (pa_cons (pe_tup (pa_cons pe_int (pa_cons pe_int pa_nil))) (pa_cons (pe_tup (pa_cons pe_int (pa_cons pe_int pa_nil))) pa_nil))) pa_nil))))))) pa_nil)))
      (pss_one (ps_ret (pv 0))))))))))))), fun f hcl => ⟨_, (ss_seq (ss_asgO (seo_lst (sa_cons (se_tup (sa_cons (se_tup (sa_cons (se_tup (sa_cons se_int (sa_cons se_int sa_nil))) (sa_cons (se_tup (sa_cons se_int (sa_cons se_int sa_nil))) sa_nil))) (sa_cons (se_tup (sa_cons (se_tup (sa_cons se_int (sa_cons se_int sa_nil))) (sa_cons (se_tup (sa_cons se_int (sa_cons se_int sa_nil))) sa_nil))) (sa_cons (se_tup (sa_cons (se_tup (sa_cons se_int (sa_cons se_int sa_nil))) (sa_cons (se_tup (sa_cons se_int (sa_cons se_int sa_nil))) sa_nil))) (sa_cons (se_tup (sa_cons (se_tup (sa_cons se_int (sa_cons se_int sa_nil))) (sa_cons (se_tup (sa_cons se_int (sa_cons se_int sa_nil))) sa_nil))) (sa_cons (se_tup (sa_cons (se_tup (sa_cons se_int (sa_cons se_int sa_nil))) (sa_cons (se_tup (sa_cons se_int (sa_cons se_int sa_nil))) sa_nil))) (sa_cons (se_tup (sa_cons (se_tup (sa_cons se_int (sa_cons se_int sa_nil))) (sa_cons (se_tup (sa_cons se_int (sa_cons se_int sa_nil))) sa_nil))) sa_nil))))))) sa_nil)))
      (ss_seq (ss_append (se_tup (sa_cons (se_tup (sa_cons (se_tup (sa_cons se_int (sa_cons se_int sa_nil))) (sa_cons (se_tup (sa_cons se_int (sa_cons se_int sa_nil))) sa_nil))) (sa_cons (se_tup (sa_cons (se_tup (sa_cons se_int (sa_cons se_int sa_nil))) (sa_cons (se_tup (sa_cons se_int (sa_cons se_int sa_nil))) sa_nil))) (sa_cons (se_tup (sa_cons (se_tup (sa_cons se_int (sa_cons se_int sa_nil))) (sa_cons (se_tup (sa_cons se_int (sa_cons se_int sa_nil))) sa_nil))) (sa_cons (se_tup (sa_cons (se_tup (sa_cons se_int (sa_cons se_int sa_nil))) (sa_cons (se_tup (sa_cons se_int (sa_cons se_int sa_nil))) sa_nil))) (sa_cons (se_tup (sa_cons (se_tup (sa_cons se_int (sa_cons se_int sa_nil))) (sa_cons (se_tup (sa_cons se_int (sa_cons se_int sa_nil))) sa_nil))) (sa_cons (se_tup (sa_cons (se_tup (sa_cons se_int (sa_cons se_int sa_nil))) (sa_cons (se_tup (sa_cons se_int (sa_cons se_int sa_nil))) sa_nil))) sa_nil))))))))
      (ss_seq (ss_append (se_tup (sa_cons (se_tup (sa_cons (se_tup (sa_cons (se_un s1_neg se_int) (sa_cons se_int sa_nil))) (sa_cons (se_tup (sa_cons se_int (sa_cons se_int sa_nil))) sa_nil))) (sa_cons (se_tup (sa_cons (se_tup (sa_cons se_int (sa_cons se_int sa_nil))) (sa_cons (se_tup (sa_cons se_int (sa_cons (se_un s1_neg se_int) sa_nil))) sa_nil))) (sa_cons (se_tup (sa_cons (se_tup (sa_cons se_int (sa_cons (se_un s1_neg se_int) sa_nil))) (sa_cons (se_tup (sa_cons (se_un s1_neg se_int) (sa_cons (se_un s1_neg se_int) sa_nil))) sa_nil))) (sa_cons (se_tup (sa_cons (se_tup (sa_cons (se_un s1_neg se_int) (sa_cons (se_un s1_neg se_int) sa_nil))) (sa_cons (se_tup (sa_cons (se_un s1_neg se_int) (sa_cons se_int sa_nil))) sa_nil))) (sa_cons (se_tup (sa_cons (se_tup (sa_cons (se_un s1_neg se_int) (sa_cons se_int sa_nil))) (sa_cons (se_tup (sa_cons se_int (sa_cons se_int sa_nil))) sa_nil))) sa_nil)))))))
      (ss_seq (ss_append (se_tup (sa_cons (se_tup (sa_cons (se_tup (sa_cons (se_un s1_neg se_int) (sa_cons se_int sa_nil))) (sa_cons (se_tup (sa_cons se_int (sa_cons se_int sa_nil))) sa_nil))) (sa_cons (se_tup (sa_cons (se_tup (sa_cons se_int (sa_cons se_int sa_nil))) (sa_cons (se_tup (sa_cons se_int (sa_cons se_int sa_nil))) sa_nil))) (sa_cons (se_tup (sa_cons (se_tup (sa_cons se_int (sa_cons se_int sa_nil))) (sa_cons (se_tup (sa_cons se_int (sa_cons (se_un s1_neg se_int) sa_nil))) sa_nil))) (sa_cons (se_tup (sa_cons (se_tup (sa_cons (se_un s1_neg se_int) (sa_cons (se_un s1_neg se_int) sa_nil))) (sa_cons (se_tup (sa_cons (se_un s1_neg se_int) (sa_cons se_int sa_nil))) sa_nil))) (sa_cons (se_tup (sa_cons (se_tup (sa_cons se_int (sa_cons se_int sa_nil))) (sa_cons (se_tup (sa_cons se_int (sa_cons se_int sa_nil))) sa_nil))) (sa_cons (se_tup (sa_cons (se_tup (sa_cons (se_un s1_neg se_int) (sa_cons se_int sa_nil))) (sa_cons (se_tup (sa_cons (se_un s1_neg se_int) (sa_cons se_int sa_nil))) sa_nil))) sa_nil))))))))
      (ss_seq (ss_append (se_tup (sa_cons (se_tup (sa_cons (se_tup (sa_cons (se_un s1_neg se_int) (sa_cons se_int sa_nil))) (sa_cons (se_tup (sa_cons (se_un s1_neg se_int) (sa_cons se_int sa_nil))) sa_nil))) (sa_cons (se_tup (sa_cons (se_tup (sa_cons (se_un s1_neg se_int) (sa_cons se_int sa_nil))) (sa_cons (se_tup (sa_cons se_int (sa_cons se_int sa_nil))) sa_nil))) (sa_cons (se_tup (sa_cons (se_tup (sa_cons se_int (sa_cons se_int sa_nil))) (sa_cons (se_tup (sa_cons se_int (sa_cons se_int sa_nil))) sa_nil))) (sa_cons (se_tup (sa_cons (se_tup (sa_cons se_int (sa_cons se_int sa_nil))) (sa_cons (se_tup (sa_cons se_int (sa_cons se_int sa_nil))) sa_nil))) (sa_cons (se_tup (sa_cons (se_tup (sa_cons (se_un s1_neg se_int) (sa_cons se_int sa_nil))) (sa_cons (se_tup (sa_cons (se_un s1_neg se_int) (sa_cons se_int sa_nil))) sa_nil))) (sa_cons (se_tup (sa_cons (se_tup (sa_cons se_int (sa_cons (se_un s1_neg se_int) sa_nil))) (sa_cons (se_tup (sa_cons se_int (sa_cons (se_un s1_neg se_int) sa_nil))) sa_nil))) sa_nil))))))))
      (ss_seq (ss_append (se_tup (sa_cons (se_tup (sa_cons (se_tup (sa_cons se_int (sa_cons se_int sa_nil))) (sa_cons (se_tup (sa_cons se_int (sa_cons se_int sa_nil))) sa_nil))) (sa_cons (se_tup (sa_cons (se_tup (sa_cons se_int (sa_cons se_int sa_nil))) (sa_cons (se_tup (sa_cons se_int (sa_cons se_int sa_nil))) sa_nil))) (sa_cons (se_tup (sa_cons (se_tup (sa_cons se_int (sa_cons se_int sa_nil))) (sa_cons (se_tup (sa_cons (se_un s1_neg se_int) (sa_cons se_int sa_nil))) sa_nil))) (sa_cons (se_tup (sa_cons (se_tup (sa_cons se_int (sa_cons se_int sa_nil))) (sa_cons (se_tup (sa_cons (se_un s1_neg se_int) (sa_cons (se_un s1_neg se_int) sa_nil))) sa_nil))) (sa_cons (se_tup (sa_cons (se_tup (sa_cons se_int (sa_cons (se_un s1_neg se_int) sa_nil))) (sa_cons (se_tup (sa_cons se_int (sa_cons (se_un s1_neg se_int) sa_nil))) sa_nil))) (sa_cons (se_tup (sa_cons (se_tup (sa_cons se_int (sa_cons se_int sa_nil))) (sa_cons (se_tup (sa_cons se_int (sa_cons se_int sa_nil))) sa_nil))) sa_nil))))))))
      (ss_seq (ss_append (se_tup (sa_cons (se_tup (sa_cons (se_tup (sa_cons se_int (sa_cons se_int sa_nil))) (sa_cons (se_tup (sa_cons se_int (sa_cons se_int sa_nil))) sa_nil))) (sa_cons (se_tup (sa_cons (se_tup (sa_cons se_int (sa_cons se_int sa_nil))) (sa_cons (se_tup (sa_cons (se_un s1_neg se_int) (sa_cons se_int sa_nil))) sa_nil))) (sa_cons (se_tup (sa_cons (se_tup (sa_cons (se_un s1_neg se_int) (sa_cons se_int sa_nil))) (sa_cons (se_tup (sa_cons (se_un s1_neg se_int) (sa_cons (se_un s1_neg se_int) sa_nil))) sa_nil))) (sa_cons (se_tup (sa_cons (se_tup (sa_cons se_int (sa_cons (se_un s1_neg se_int) sa_nil))) (sa_cons (se_tup (sa_cons se_int (sa_cons (se_un s1_neg se_int) sa_nil))) sa_nil))) (sa_cons (se_tup (sa_cons (se_tup (sa_cons se_int (sa_cons se_int sa_nil))) (sa_cons (se_tup (sa_cons se_int (sa_cons se_int sa_nil))) sa_nil))) (sa_cons (se_tup (sa_cons (se_tup (sa_cons (se_un s1_neg se_int) (sa_cons se_int sa_nil))) (sa_cons (se_tup (sa_cons (se_un s1_neg se_int) (sa_cons se_int sa_nil))) sa_nil))) sa_nil))))))))
      (ss_seq (ss_append (se_tup (sa_cons (se_tup (sa_cons (se_tup (sa_cons se_int (sa_cons se_int sa_nil))) (sa_cons (se_tup (sa_cons se_int (sa_cons se_int sa_nil))) sa_nil))) (sa_cons (se_tup (sa_cons (se_tup (sa_cons se_int (sa_cons se_int sa_nil))) (sa_cons (se_tup (sa_cons se_int (sa_cons se_int sa_nil))) sa_nil))) (sa_cons (se_tup (sa_cons (se_tup (sa_cons se_int (sa_cons se_int sa_nil))) (sa_cons (se_tup (sa_cons se_int (sa_cons se_int sa_nil))) sa_nil))) (sa_cons (se_tup (sa_cons (se_tup (sa_cons (se_un s1_neg se_int) (sa_cons se_int sa_nil))) (sa_cons (se_tup (sa_cons (se_un s1_neg se_int) (sa_cons se_int sa_nil))) sa_nil))) (sa_cons (se_tup (sa_cons (se_tup (sa_cons se_int (sa_cons se_int sa_nil))) (sa_cons (se_tup (sa_cons se_int (sa_cons se_int sa_nil))) sa_nil))) (sa_cons (se_tup (sa_cons (se_tup (sa_cons (se_un s1_neg se_int) (sa_cons (se_un s1_neg se_int) sa_nil))) (sa_cons (se_tup (sa_cons se_int (sa_cons (se_un s1_neg se_int) sa_nil))) sa_nil))) sa_nil))))))))
      (ss_seq (ss_append (se_tup (sa_cons (se_tup (sa_cons (se_tup (sa_cons se_int (sa_cons se_int sa_nil))) (sa_cons (se_tup (sa_cons se_int (sa_cons se_int sa_nil))) sa_nil))) (sa_cons (se_tup (sa_cons (se_tup (sa_cons se_int (sa_cons se_int sa_nil))) (sa_cons (se_tup (sa_cons se_int (sa_cons se_int sa_nil))) sa_nil))) (sa_cons (se_tup (sa_cons (se_tup (sa_cons se_int (sa_cons se_int sa_nil))) (sa_cons (se_tup (sa_cons se_int (sa_cons se_int sa_nil))) sa_nil))) (sa_cons (se_tup (sa_cons (se_tup (sa_cons se_int (sa_cons se_int sa_nil))) (sa_cons (se_tup (sa_cons se_int (sa_cons se_int sa_nil))) sa_nil))) (sa_cons (se_tup (sa_cons (se_tup (sa_cons se_int (sa_cons se_int sa_nil))) (sa_cons (se_tup (sa_cons se_int (sa_cons se_int sa_nil))) sa_nil))) (sa_cons (se_tup (sa_cons (se_tup (sa_cons (se_un s1_neg se_int) (sa_cons se_int sa_nil))) (sa_cons (se_tup (sa_cons (se_un s1_neg se_int) (sa_cons se_int sa_nil))) sa_nil))) sa_nil))))))))
      (ss_seq (ss_append (se_tup (sa_cons (se_tup (sa_cons (se_tup (sa_cons (se_un s1_neg se_int) (sa_cons se_int sa_nil))) (sa_cons (se_tup (sa_cons se_int (sa_cons se_int sa_nil))) sa_nil))) (sa_cons (se_tup (sa_cons (se_tup (sa_cons (se_un s1_neg se_int) (sa_cons se_int sa_nil))) (sa_cons (se_tup (sa_cons (se_un s1_neg se_int) (sa_cons se_int sa_nil))) sa_nil))) (sa_cons (se_tup (sa_cons (se_tup (sa_cons se_int (sa_cons se_int sa_nil))) (sa_cons (se_tup (sa_cons se_int (sa_cons se_int sa_nil))) sa_nil))) (sa_cons (se_tup (sa_cons (se_tup (sa_cons (se_un s1_neg se_int) (sa_cons se_int sa_nil))) (sa_cons (se_tup (sa_cons se_int (sa_cons se_int sa_nil))) sa_nil))) (sa_cons (se_tup (sa_cons (se_tup (sa_cons se_int (sa_cons (se_un s1_neg se_int) sa_nil))) (sa_cons (se_tup (sa_cons se_int (sa_cons (se_un s1_neg se_int) sa_nil))) sa_nil))) (sa_cons (se_tup (sa_cons (se_tup (sa_cons se_int (sa_cons se_int sa_nil))) (sa_cons (se_tup (sa_cons se_int (sa_cons se_int sa_nil))) sa_nil))) sa_nil))))))))
      (ss_ret se_var))))))))))), fun ds Qd h => ?_⟩⟩
  obtain ⟨rfl, q⟩ := h
  repeat (refine ⟨Nat.le_of_ble_eq_true rfl, ?_⟩)
  exact q _ (by decide +kernel)
/-! ### _law_names -/
abbrev s__law_names : Stmt := topS 36
theorem sc__law_names : FnScope ["deck", "many", "left", "found", "turn_v"] ["deck", "many"] (defScope s__law_names) := ⟨rfl, rfl, rfl, by decide +kernel, rfl, by decide +kernel, by decide +kernel⟩
def m__law_names : Md := fun ds Q _ => ∃ many : Nat, ds = [.int many] ∧ many ≤ 10 ∧ ∀ ns : List Str, ns.length = many → ns.Nodup → (∀ n ∈ ns, n ∈ tenS) → Q (.list (ns.map .str))
theorem fk__law_names {P : Program} {w : World} {K : PySem.W.Frag} {mg : Str → Option Value} {base : Heap} {cl : Str → Addr} (S : At K mg "_law_names" s__law_names) (T : Blt mg) (G__law_draw : Fk P w K mg base CX0 1 "_law_draw" ["deck", "many"] (spD true cl m__law_draw)) :
    Fk P w K mg base CX0 2 "_law_names" ["deck", "many"] (spD true cl m__law_names) := by
  refine fk_mk0 (n := 1) S sc__law_names (fun f fd F => F.binds fun _ _ _ _ _ _ us hl => (match us, hl with | [_, _], _ => rfl)) (fun ds Q E h => by
    obtain ⟨_, rfl, _⟩ := h
    rfl) rfl fun fa cdv A outer s H E hr => ⟨_, (pss_cons (ps_par (i := 2) (j := 3) (by rfl) sc__law_names.nd rfl rfl (by decide) rfl rfl (pa_cons (pe_lst (pa_cons pe_str (pa_cons pe_str (pa_cons pe_str (pa_cons pe_str (pa_cons pe_str (pa_cons pe_str (pa_cons pe_str (pa_cons pe_str (pa_cons pe_str (pa_cons pe_str pa_nil))))))))))) (pa_cons (pe_lst pa_nil) pa_nil)) (by rfl))
      (Evl.pss_cut (ps_for PassesOwn.never rfl (pi_range1 (by rfl) T.range (pa_cons (pv 1) pa_nil)) (pg_name (i := 4) sc__law_names.nd rfl (.inl rfl)) (pss_one (ps_expr (qe_append (K := K) rfl (pv 3) (pa_cons (qe_popAt (K := K) rfl (pv 2) (pa_cons (pe_cl G__law_draw (hr.mono (by decide : 1 ≤ 1)) (by rfl) pass0 (pa_cons (pv 0) (pa_cons (pe_callB (qc_len (K := K) rfl) (by rfl) T.len (by decide +kernel) (pa_cons (pv 2) pa_nil)) pa_nil))) pa_nil)) pa_nil)))))
      (pss_one (ps_ret (pv 3))))), fun f hcl => ⟨_, (ss_seq (ss_parX (sx_own (seo_lst (sa_cons se_str (sa_cons se_str (sa_cons se_str (sa_cons se_str (sa_cons se_str (sa_cons se_str (sa_cons se_str (sa_cons se_str (sa_cons se_str (sa_cons se_str sa_nil))))))))))) (sx_own (seo_lst sa_nil) sx_nil)))
      (ss_cut (ss_loop (si_rng1 (sa_cons se_var sa_nil)) sg_name (ss_appPop (se_dem (i := 2) (se_callK hcl (sa_cons (se_cb sn_len (sa_cons se_var sa_nil)) sa_nil)))))
      (ss_ret se_var))), fun ds Qd h => ?_⟩⟩
  obtain ⟨many, rfl, hm, q⟩ := h
  refine ⟨(by show 10 ≤ 1000; decide), (by show 0 ≤ 1000; decide), rfl, fun ρ => ∃ (ls ns : List PyData) (t : Sl), ρ = [.dk, .d (.int many), .own ls, .own ns, t] ∧ ns.length = many ∧ ns.Nodup ∧ (∀ n ∈ ns, IsTen n), ⟨by omega, by omega, loop_ind (fun r ρ => ∃ (ls ns : List PyData) (t : Sl), ρ = [.dk, .d (.int many), .own ls, .own ns, t] ∧ r.length + ns.length = many ∧ ls.length + ns.length = 10 ∧ (ls ++ ns).Nodup ∧ (∀ n ∈ ls, IsTen n) ∧ (∀ n ∈ ns, IsTen n)) (fun ρ h => ?_) (fun x r ρ h N hN => ?_) _ ⟨tenS.map .str, [], .any, rfl, ?_, rfl, by rw [List.append_nil]; exact ten_nodup, ?_, alln⟩⟩, ?_⟩
  · obtain ⟨ls, ns, t, rfl, h1, h2, h5, h3, h4⟩ := h
    exact ⟨ls, ns, t, rfl, by simpa using h1, (List.nodup_append.mp h5).2.1, h4⟩
  · obtain ⟨ls, ns, t, rfl, h1, h2, h5, h3, h4⟩ := h
    rw [List.length_cons] at h1
    refine ⟨by omega, by decide, by omega, by omega, lt18 (by omega), fun i i0 i1 => ⟨rfl, i0, ?_⟩⟩
    have hi : i.toNat < ls.length := by omega
    rw [List.getElem?_eq_getElem hi]
    refine hN _ ⟨ls.eraseIdx i.toNat, ns ++ [ls[i.toNat]], _, rfl, ?_, ?_, (move_perm hi).nodup_iff.mpr h5, fun n hn => h3 n (List.mem_of_mem_eraseIdx hn), fun n hn => ?_⟩
    · rw [List.length_append, List.length_cons, List.length_nil]
      omega
    · rw [List.length_append, List.length_cons, List.length_nil, List.length_eraseIdx_of_lt hi]
      omega
    · rcases List.mem_append.mp hn with hn | hn
      · exact h4 n hn
      · rw [List.mem_singleton.mp hn]
        exact h3 _ (List.getElem_mem hi)
  · rw [rngD, List.length_map, List.length_range]
    show (many : Int).toNat + 0 = many
    omega
  · intro n hn
    obtain ⟨m, hm, rfl⟩ := List.mem_map.mp hn
    exact ⟨m, hm, rfl⟩
  · rintro ρ ⟨ls, ns, t, rfl, h1, h5, h2⟩
    obtain ⟨ms, rfl, h3⟩ := tens_of h2
    exact q ms (by rw [← h1, List.length_map]) (nodup_map h5) h3
end Ey
namespace Ey
open PySem PySem.Spec PyProof.Rows L2
/-! ### _law_free -/
abbrev s__law_free : Stmt := topS 37
theorem sc__law_free : FnScope ["deck", "many", "most", "found", "turn_v", "p", "q", "it"] ["deck", "many", "most"] (defScope s__law_free) := ⟨rfl, rfl, rfl, by decide +kernel, rfl, by decide +kernel, by decide +kernel⟩
def m__law_free : Md := fun ds Q _ => ∃ many most : Nat, ds = [.int many, .int most] ∧ many ≤ 9 ∧ most ≤ 60 ∧ ∀ ps : List PyData, ps.length ≤ many → (∀ p ∈ ps, qB 60 p = true ∧ qnB p = true) → ps.Pairwise Off → Q (.list ps)
theorem fk__law_free {P : Program} {w : World} {K : PySem.W.Frag} {mg : Str → Option Value} {base : Heap} {cl : Str → Addr} (S : At K mg "_law_free" s__law_free) (T : Blt mg) (G__law_draw : Fk P w K mg base CX0 1 "_law_draw" ["deck", "many"] (spD true cl m__law_draw)) (G__law_is_crossed : Fk P w K mg base CX0 3 "_law_is_crossed" ["one", "other"] (spD false cl m__law_is_crossed)) (G__law_pick : Fk P w K mg base CX0 2 "_law_pick" ["deck", "some"] (spD true cl m__law_pick)) :
    Fk P w K mg base CX0 4 "_law_free" ["deck", "many", "most"] (spD true cl m__law_free) := by
  refine fk_mk0 (n := 2) S sc__law_free (fun f fd F => F.binds fun _ _ _ _ _ _ us hl => (match us, hl with | [_, _, _], _ => rfl)) (fun ds Q E h => by
    obtain ⟨_, _, rfl, _⟩ := h
    rfl) rfl fun fa cdv A outer s H E hr => ⟨_, (pss_cons (ps_set (i := 3) sc__law_free.nd rfl (.inl rfl) (pe_lst pa_nil))
      (Evl.pss_cut (ps_for PassesOwn.never rfl (pi_range1 (by rfl) T.range (pa_cons (pe_op op_mulW pe_int (pv 1)) pa_nil)) (pg_name (i := 4) sc__law_free.nd rfl (.inl rfl)) (pss_cons (ps_set (i := 5) sc__law_free.nd rfl (.inr rfl) (pe_tup (pa_cons (pe_op op_sub (pe_cl G__law_draw (hr.mono (by decide : 1 ≤ 3)) (by rfl) pass0 (pa_cons (pv 0) (pa_cons (qe_add (K := K) rfl (pe_op op_mulW pe_int (pv 2)) pe_int) pa_nil))) (pv 2)) (pa_cons (pe_op op_sub (pe_cl G__law_draw (hr.mono (by decide : 1 ≤ 3)) (by rfl) pass0 (pa_cons (pv 0) (pa_cons (qe_add (K := K) rfl (pe_op op_mulW pe_int (pv 2)) pe_int) pa_nil))) (pv 2)) pa_nil))))
      (pss_cons (ps_set (i := 6) sc__law_free.nd rfl (.inr rfl) (pe_tup (pa_cons (pe_op op_sub (pe_cl G__law_draw (hr.mono (by decide : 1 ≤ 3)) (by rfl) pass0 (pa_cons (pv 0) (pa_cons (qe_add (K := K) rfl (pe_op op_mulW pe_int (pv 2)) pe_int) pa_nil))) (pv 2)) (pa_cons (pe_op op_sub (pe_cl G__law_draw (hr.mono (by decide : 1 ≤ 3)) (by rfl) pass0 (pa_cons (pv 0) (pa_cons (qe_add (K := K) rfl (pe_op op_mulW pe_int (pv 2)) pe_int) pa_nil))) (pv 2)) pa_nil))))
      (Evl.pss_cut (ps_if (PW.pt (pw_and (pt_cmpR (qo_neNil (K := K) rfl hr.units) (pv 3) (pe_lst pa_nil) (nomark _)) (pw_and1 (pt_cmpR (qo_eq (K := K) rfl hr.units) (pe_cl G__law_draw (hr.mono (by decide : 1 ≤ 3)) (by rfl) pass0 (pa_cons (pv 0) (pa_cons pe_int pa_nil))) pe_int (nomark _))))) (pss_one (ps_set (i := 5) sc__law_free.nd rfl (.inr rfl) (pe_cl G__law_pick (hr.mono (by decide : 2 ≤ 3)) (by rfl) pass0 (pa_cons (pv 0) (pa_cons (pe_cl G__law_pick (hr.mono (by decide : 2 ≤ 3)) (by rfl) pass0 (pa_cons (pv 0) (pa_cons (pv 3) pa_nil))) pa_nil))))) pss_nil)
      (pss_one (ps_if (PW.pt (pw_and (pt_cmpR (qo_ne (K := K) rfl hr.units) (pv 5) (pv 6) (nomark _)) (pw_and (pt_cmpR op_lt (pe_callB (qc_len (K := K) rfl) (by rfl) T.len (by decide +kernel) (pa_cons (pv 3) pa_nil)) (pv 1) (nomark _)) (pw_and1 (pt_cmpR (qo_eqNil (K := K) rfl hr.units) (pe_lc (own := [("it", 7)]) rfl sc__law_free.nd (pi_any (K := K) rfl (pv 3)) (blkOk_by (own := [("it", 7)]) (N := ["deck", "many", "most", "found", "turn_v", "p", "q", "it"]) (sc := defScope s__law_free) (by decide +kernel)) (fun _ _ _ _ _ => (pg_name (i := 7) sc__law_free.nd rfl (Or.inl rfl))) (fun _ _ _ _ _ => (pts_one (pt_val (pe_cl G__law_is_crossed (hr.mono (by decide : 3 ≤ 3)) (by rfl) pass0 (pa_cons (pe_tup (pa_cons pe_str (pa_cons (pv 5) (pa_cons (pv 6) pa_nil)))) (pa_cons (qe_add (K := K) rfl (pe_tup (pa_cons pe_str pa_nil)) (pv 7)) pa_nil)))))) (fun _ _ _ _ _ => (pv 7))) (pe_lst pa_nil) (nomark _)))))) (pss_one (ps_expr (qe_append (K := K) rfl (pv 3) (pa_cons (pe_tup (pa_cons (pv 5) (pa_cons (pv 6) pa_nil))) pa_nil)))) pss_nil))))))
      (pss_one (ps_ret (pv 3))))), fun f hcl => ⟨_, (ss_seq (ss_asgO (seo_lst sa_nil))
      (ss_cut (ss_loop (si_rng1 (sa_cons (se_op s2_mul se_int se_var) sa_nil)) sg_name (ss_seq (ss_asg (se_tup (sa_cons (se_op s2_sub (se_callK hcl (sa_cons (se_op s2_add (se_op s2_mul se_int se_var) se_int) sa_nil)) se_var) (sa_cons (se_op s2_sub (se_callK hcl (sa_cons (se_op s2_add (se_op s2_mul se_int se_var) se_int) sa_nil)) se_var) sa_nil))) sg_name)
      (ss_seq (ss_asg (se_tup (sa_cons (se_op s2_sub (se_callK hcl (sa_cons (se_op s2_add (se_op s2_mul se_int se_var) se_int) sa_nil)) se_var) (sa_cons (se_op s2_sub (se_callK hcl (sa_cons (se_op s2_add (se_op s2_mul se_int se_var) se_int) sa_nil)) se_var) sa_nil))) sg_name)
      (ss_cut (ss_if (st_dem (i := 3) (st_and (st_test (se_op s2_nil se_var (se_lst sa_nil))) (st_test (se_op s2_eq (se_callK hcl (sa_cons se_int sa_nil)) se_int)))) (ss_asg (se_dem (i := 3) (se_callK hcl (sa_cons (se_callK hcl (sa_cons se_var sa_nil)) sa_nil))) sg_name) ss_next)
      (ss_if (st_dem (i := 3) (st_and (st_test (se_op s2_ne se_var se_var)) (st_and (st_test (se_op s2_lt (se_cb sn_len (sa_cons se_var sa_nil)) se_var)) (st_test (se_op s2_nil (se_own (seo_lc (si_any se_var) sg_name (by decide) (st_b (se_callF hcl (sa_cons (se_tup (sa_cons se_str (sa_cons se_var (sa_cons se_var sa_nil)))) (sa_cons (se_op s2_add (se_tup (sa_cons se_str sa_nil)) se_var) sa_nil)))) se_var)) (se_lst sa_nil)))))) (ss_append (se_tup (sa_cons se_var (sa_cons se_var sa_nil)))) ss_next)))))
      (ss_ret se_var))), fun ds Qd h => ?_⟩⟩
  obtain ⟨many, most, rfl, h1, h2, q⟩ := h
  have cm2 : CMulW 2 (most : Int) := wm (a := 2) (b := 6) (by decide) (Nat.lt_of_le_of_lt (show ((most : Nat) : Int).natAbs ≤ 60 by omega) (by decide))
  have d1 : (0 : Int) < 2 * (most : Int) + 1 := by omega
  have d2 : (2 : Int) * (most : Int) + 1 < 10 ^ 18 := lt18 (by omega)
  refine ⟨(by show 0 ≤ 1000; decide), fun ρ => ∃ (ps : List PyData) (a b c d : Sl), ρ = [.dk, .d (.int (many : Nat)), .d (.int (most : Nat)), .own ps, a, b, c, d] ∧ ps.length ≤ many ∧ (∀ p ∈ ps, qB 60 p = true ∧ qnB p = true) ∧ ps.Pairwise Off, ⟨wm (a := 2) (b := 6) (by decide) (Nat.lt_of_le_of_lt (show ((many : Nat) : Int).natAbs ≤ 9 by omega) (by decide)), by omega, by omega, loop_ind (fun _ ρ => ∃ (ps : List PyData) (a b c d : Sl), ρ = [.dk, .d (.int (many : Nat)), .d (.int (most : Nat)), .own ps, a, b, c, d] ∧ ps.length ≤ many ∧ (∀ p ∈ ps, qB 60 p = true ∧ qnB p = true) ∧ ps.Pairwise Off) (fun ρ h => h) (fun x r ρ h N hN => ?_) _ ⟨[], .any, .any, .any, .any, rfl, Nat.zero_le _, alln, List.Pairwise.nil⟩⟩, ?_⟩
  · obtain ⟨ps, a, b, c, d, rfl, hl, hp, ho⟩ := h
    refine ⟨cm2, d1, d2, fun r1 a0 a1 => ⟨cm2, d1, d2, fun r2 b0 b1 => ⟨(by show 2 ≤ 1000; decide), ?_⟩⟩⟩
    refine ⟨cm2, d1, d2, fun r3 c0 c1 => ⟨cm2, d1, d2, fun r4 e0 e1 => ⟨(by show 2 ≤ 1000; decide), ?_⟩⟩⟩
    have g0 : (r3 - (most : Int)).natAbs ≤ 60 := by omega
    have g1 : (r4 - (most : Int)).natAbs ≤ 60 := by omega
    refine ⟨fun ρ => ∃ e f : Int, ρ = [.dk, .d (.int (many : Nat)), .d (.int (most : Nat)), .own ps, .d x, .d (prD e f), .d (prD (r3 - (most : Int)) (r4 - (most : Int))), d] ∧ e.natAbs ≤ 60 ∧ f.natAbs ≤ 60, ?_, ?_⟩
    · have stay : ∃ e f : Int, [Sl.dk, .d (.int (many : Nat)), .d (.int (most : Nat)), .own ps, .d x, .d (prD (r1 - (most : Int)) (r2 - (most : Int))), .d (prD (r3 - (most : Int)) (r4 - (most : Int))), d] = [.dk, .d (.int (many : Nat)), .d (.int (most : Nat)), .own ps, .d x, .d (prD e f), .d (prD (r3 - (most : Int)) (r4 - (most : Int))), d] ∧ e.natAbs ≤ 60 ∧ f.natAbs ≤ 60 := ⟨_, _, rfl, by omega, by omega⟩
      refine ⟨by decide, iteB_i (fun t1 => ⟨by decide, by decide, fun r5 _ _ => ⟨rfl, rfl, iteB_i (fun t2 => ?_) (fun t2 => stay)⟩⟩) (fun t1 => stay)⟩
      have hn : 0 < ps.length := by
        cases ps with
        | nil => exact absurd t1 (by decide)
        | cons a b => exact Nat.succ_pos _
      refine ⟨hn, by omega, fun y hy => ?_⟩
      obtain ⟨e1, f1, e2, f2, rfl, b1, b2, b3, b4⟩ := qB_is (hp y hy).1
      refine ⟨(by show 0 < 2; decide), (by show 2 ≤ 1000; decide), ?_⟩
      exact allc ⟨rfl, e1, f1, rfl, b1, b2⟩ (allc ⟨rfl, e2, f2, rfl, b3, b4⟩ alln)
    · rintro ρ ⟨e, f, rfl, b1, b2⟩
      have stay : N [Sl.dk, .d (.int (many : Nat)), .d (.int (most : Nat)), .own ps, .d x, .d (prD e f), .d (prD (r3 - (most : Int)) (r4 - (most : Int))), d] := hN _ ⟨ps, _, _, _, _, rfl, hl, hp, ho⟩
      refine ⟨shaped_tup [e, f], shaped_tup [_, _], iteB_i (fun t1 => iteB_i (fun t2 => ?_) (fun t2 => stay)) (fun t1 => stay)⟩
      have ne := ne_pair t1
      have t2 : ((ps.length : Nat) : Int) < (many : Nat) := of_decide_eq_true t2
      refine ⟨by omega, comp_flt (crossOf e f (r3 - (most : Int)) (r4 - (most : Int))) _ [] (fun y hy R R0 hk => ?_) ⟨by decide, iteB_i (fun t3 => ?_) (fun t3 => stay)⟩⟩
      · obtain ⟨e1, f1, e2, f2, rfl, c1, c2, c3, c4⟩ := qB_is (hp y hy).1
        exact ⟨(by show 3 ≤ 1000; decide), (by show 1 ≤ 1000; decide), (by show 1 + 2 ≤ 100000; decide), "", "", _, _, _, _, _, _, _, _, rfl, sm60 b1 b2, sm60 g0 g1, sm60 c1 c2, sm60 c3 c4, ne, hk⟩
      · refine ⟨by omega, (by show 2 ≤ 1000; decide), hN _ ⟨ps ++ [.tuple [prD e f, prD (r3 - (most : Int)) (r4 - (most : Int))]], _, _, _, _, rfl, ?_, fun y hy => ?_, ?_⟩⟩
        · rw [List.length_append]
          show ps.length + 1 ≤ many
          omega
        · rcases List.mem_append.mp hy with hy | hy
          · exact hp y hy
          · rw [List.mem_singleton.mp hy]
            exact ⟨qB_mk b1 b2 g0 g1, qn_mk ne⟩
        · refine List.pairwise_append.mpr ⟨ho, List.pairwise_singleton _ _, fun y hy z hz => ?_⟩
          rw [List.mem_singleton.mp hz]
          obtain ⟨e1, f1, e2, f2, rfl, _⟩ := qB_is (hp y hy).1
          have em : (ps.filter (crossOf e f (r3 - (most : Int)) (r4 - (most : Int)))).isEmpty = true := t3
          have nf : crossOf e f (r3 - (most : Int)) (r4 - (most : Int)) (.tuple [prD e1 f1, prD e2 f2]) = false := by
            cases z : crossOf e f (r3 - (most : Int)) (r4 - (most : Int)) (.tuple [prD e1 f1, prD e2 f2]) with
            | false => rfl
            | true =>
              have := List.mem_filter.mpr ⟨hy, z⟩
              rw [List.isEmpty_iff.mp em] at this
              cases this
          exact (clash_swap ne (qn_is (hp _ hy).2)).trans nf
  · rintro ρ ⟨ps, a, b, c, d, rfl, hl, hp, ho⟩
    exact q ps hl hp ho
/-! ### _law_drawn_plan -/
abbrev s__law_drawn_plan : Stmt := topS 38
theorem sc__law_drawn_plan : FnScope ["deck", "most", "some", "many", "is_mirrored", "scale", "x", "y", "p", "q", "pair", "found", "name"] ["deck", "most"] (defScope s__law_drawn_plan) := ⟨rfl, rfl, rfl, by decide +kernel, rfl, by decide +kernel, by decide +kernel⟩
def m__law_drawn_plan : Md := fun ds Q _ => ∃ most : Nat, ds = [.int most] ∧ most ≤ 9 ∧ ∀ wl : List Wl, wl.length ≤ most → Pln wl → (∀ w ∈ wl, w.n ∈ tenS) → Q (.tuple (wl.map Wl.D))
theorem fk__law_drawn_plan {P : Program} {w : World} {K : PySem.W.Frag} {mg : Str → Option Value} {base : Heap} {cl : Str → Addr} (S : At K mg "_law_drawn_plan" s__law_drawn_plan) (T : Blt mg) (G__law_draw : Fk P w K mg base CX0 1 "_law_draw" ["deck", "many"] (spD true cl m__law_draw)) (G__law_free : Fk P w K mg base CX0 4 "_law_free" ["deck", "many", "most"] (spD true cl m__law_free)) (G__law_layouts : Fk P w K mg base CX0 1 "_law_layouts" [] (spD false cl m__law_layouts)) (G__law_moved : Fk P w K mg base CX0 1 "_law_moved" ["p", "many", "is_mirrored", "scale", "x", "y"] (spD false cl m__law_moved)) (G__law_names : Fk P w K mg base CX0 2 "_law_names" ["deck", "many"] (spD true cl m__law_names)) (G__law_pick : Fk P w K mg base CX0 2 "_law_pick" ["deck", "some"] (spD true cl m__law_pick)) :
    Fk P w K mg base CX0 5 "_law_drawn_plan" ["deck", "most"] (spD true cl m__law_drawn_plan) := by
  refine fk_mk0 (n := 1) S sc__law_drawn_plan (fun f fd F => F.binds fun _ _ _ _ _ _ us hl => (match us, hl with | [_, _], _ => rfl)) (fun ds Q E h => by
    obtain ⟨_, rfl, _⟩ := h
    rfl) rfl fun fa cdv A outer s H E hr => ⟨_, (Evl.pss_cut (ps_if (pt_cmpR (qo_eq (K := K) rfl hr.units) (pe_cl G__law_draw (hr.mono (by decide : 1 ≤ 4)) (by rfl) pass0 (pa_cons (pv 0) (pa_cons pe_int pa_nil))) pe_int (nomark _)) (pss_one (ps_set (i := 2) sc__law_drawn_plan.nd rfl (.inl rfl) (pe_cl G__law_free (hr.mono (by decide : 4 ≤ 4)) (by rfl) pass0 (pa_cons (pv 0) (pa_cons (pe_cl G__law_draw (hr.mono (by decide : 1 ≤ 4)) (by rfl) pass0 (pa_cons (pv 0) (pa_cons (qe_add (K := K) rfl (pv 1) pe_int) pa_nil))) (pa_cons (pe_cl G__law_pick (hr.mono (by decide : 2 ≤ 4)) (by rfl) pass0 (pa_cons (pv 0) (pa_cons (pe_lst (pa_cons pe_int (pa_cons pe_int (pa_cons pe_int pa_nil)))) pa_nil))) pa_nil)))))) (pss_cons (ps_par3 (i := 3) (j := 4) (l := 5) (by rfl) sc__law_drawn_plan.nd rfl rfl rfl (by decide) (by decide) (by decide) rfl rfl rfl (pa_cons (pe_cl G__law_draw (hr.mono (by decide : 1 ≤ 4)) (by rfl) pass0 (pa_cons (pv 0) (pa_cons pe_int pa_nil))) (pa_cons (pe_cmpR (qo_eq (K := K) rfl hr.units) (pe_cl G__law_draw (hr.mono (by decide : 1 ≤ 4)) (by rfl) pass0 (pa_cons (pv 0) (pa_cons pe_int pa_nil))) pe_int (nomark _)) (pa_cons (pe_cl G__law_pick (hr.mono (by decide : 2 ≤ 4)) (by rfl) pass0 (pa_cons (pv 0) (pa_cons (pe_lst (pa_cons pe_int (pa_cons pe_int (pa_cons pe_int (pa_cons pe_int pa_nil))))) pa_nil))) pa_nil))) (by rfl))
      (pss_cons (ps_par (i := 6) (j := 7) (by rfl) sc__law_drawn_plan.nd rfl rfl (by decide) rfl rfl (pa_cons (pe_op op_sub (pe_cl G__law_draw (hr.mono (by decide : 1 ≤ 4)) (by rfl) pass0 (pa_cons (pv 0) (pa_cons pe_int pa_nil))) pe_int) (pa_cons (pe_op op_sub (pe_cl G__law_draw (hr.mono (by decide : 1 ≤ 4)) (by rfl) pass0 (pa_cons (pv 0) (pa_cons pe_int pa_nil))) pe_int) pa_nil)) (by rfl))
      (pss_cons (ps_set (i := 2) sc__law_drawn_plan.nd rfl (.inl rfl) (pe_lst pa_nil))
      (pss_one (ps_for PassesOwn.never rfl (pi_any (K := K) rfl (pe_cl G__law_pick (hr.mono (by decide : 2 ≤ 4)) (by rfl) pass0 (pa_cons (pv 0) (pa_cons (pe_cl0 G__law_layouts (hr.mono (by decide : 1 ≤ 4)) (by rfl) pass0) pa_nil)))) (qg_tup (K := K) (n := 2) rfl rfl (pgs_cons (pg_name (i := 8) sc__law_drawn_plan.nd rfl (.inl rfl)) (pgs_cons (pg_name (i := 9) sc__law_drawn_plan.nd rfl (.inl rfl)) pgs_nil))) (pss_one (ps_if (PW.pt (pw_and (pt_cmpR op_gt (pe_cl G__law_draw (hr.mono (by decide : 1 ≤ 4)) (by rfl) pass0 (pa_cons (pv 0) (pa_cons pe_int pa_nil))) pe_int (nomark _)) (pw_and1 (pt_cmpR op_lt (pe_callB (qc_len (K := K) rfl) (by rfl) T.len (by decide +kernel) (pa_cons (pv 2) pa_nil)) (pv 1) (nomark _))))) (pss_cons (ps_set (i := 10) sc__law_drawn_plan.nd rfl (.inl rfl) (pe_tup (pa_cons (pe_cl G__law_moved (hr.mono (by decide : 1 ≤ 4)) (by rfl) pass0 (pa_cons (pv 8) (pa_cons (pv 3) (pa_cons (pv 4) (pa_cons (pv 5) (pa_cons (pv 6) (pa_cons (pv 7) pa_nil))))))) (pa_cons (pe_cl G__law_moved (hr.mono (by decide : 1 ≤ 4)) (by rfl) pass0 (pa_cons (pv 9) (pa_cons (pv 3) (pa_cons (pv 4) (pa_cons (pv 5) (pa_cons (pv 6) (pa_cons (pv 7) pa_nil))))))) pa_nil))))
      (pss_one (ps_expr (qe_append (K := K) rfl (pv 2) (pa_cons (pe_ifExp (pt_cmpR (qo_eq (K := K) rfl hr.units) (pe_cl G__law_draw (hr.mono (by decide : 1 ≤ 4)) (by rfl) pass0 (pa_cons (pv 0) (pa_cons pe_int pa_nil))) pe_int (nomark _)) (pv 10) (qe_rev (K := K) rfl (pv 10))) pa_nil))))) pss_nil))))))))
      (pss_cons (ps_setLc (i := 11) (own := [("name", 12), ("pair", 10)]) rfl sc__law_drawn_plan.nd rfl rfl (sw_true rfl rfl rfl (by decide +kernel)) (qi_zip (K := K) rfl (by rfl) T.zip (pa_cons (pe_cl G__law_names (hr.mono (by decide : 2 ≤ 4)) (by rfl) pass0 (pa_cons (pv 0) (pa_cons (pe_callB (qc_len (K := K) rfl) (by rfl) T.len (by decide +kernel) (pa_cons (pv 2) pa_nil)) pa_nil))) (pa_cons (pv 2) pa_nil))) (blkOk_by (own := [("name", 12), ("pair", 10)]) (N := ["deck", "most", "some", "many", "is_mirrored", "scale", "x", "y", "p", "q", "pair", "found", "name"]) (sc := defScope s__law_drawn_plan) (by decide +kernel)) (fun _ _ _ _ _ => (qg_tup (K := K) (n := 2) rfl rfl (pgs_cons (pg_name (i := 12) sc__law_drawn_plan.nd rfl (Or.inl rfl)) (pgs_cons (pg_name (i := 10) sc__law_drawn_plan.nd rfl (Or.inl rfl)) pgs_nil)))) (fun _ _ _ _ _ => pts_nil) (fun _ _ _ _ _ => (qe_add (K := K) rfl (pe_tup (pa_cons (pv 12) pa_nil)) (pe_callTy (qc_tuple (K := K) rfl) (by rfl) T.tuple (by decide +kernel) (pa_cons (pv 10) pa_nil)))))
      (pss_one (ps_ret (pe_callTy (qc_tuple (K := K) rfl) (by rfl) T.tuple (by decide +kernel) (pa_cons (pv 11) pa_nil)))))), fun f hcl => ⟨_, (ss_cut (ss_if (st_test (se_op s2_eq (se_callK hcl (sa_cons se_int sa_nil)) se_int)) (ss_asg (se_callK hcl (sa_cons (se_callK hcl (sa_cons (se_op s2_add se_var se_int) sa_nil)) (sa_cons (se_callK hcl (sa_cons (se_lst (sa_cons se_int (sa_cons se_int (sa_cons se_int sa_nil)))) sa_nil)) sa_nil))) sg_name) (ss_demN (i := 2) (ss_seq (ss_par3 (sa_cons (se_callK hcl (sa_cons se_int sa_nil)) (sa_cons (se_op s2_eq (se_callK hcl (sa_cons se_int sa_nil)) se_int) (sa_cons (se_callK hcl (sa_cons (se_lst (sa_cons se_int (sa_cons se_int (sa_cons se_int (sa_cons se_int sa_nil))))) sa_nil)) sa_nil))))
      (ss_seq (ss_par (sa_cons (se_op s2_sub (se_callK hcl (sa_cons se_int sa_nil)) se_int) (sa_cons (se_op s2_sub (se_callK hcl (sa_cons se_int sa_nil)) se_int) sa_nil)))
      (ss_seq (ss_asgO (seo_lst sa_nil))
      (ss_loop (si_any (se_callK hcl (sa_cons (se_callF hcl sa_nil) sa_nil))) (sg_tup (sgs_cons sg_name (sgs_cons sg_name sgs_nil))) (ss_if (st_dem (i := 2) (st_and (st_test (se_op s2_gt (se_callK hcl (sa_cons se_int sa_nil)) se_int)) (st_test (se_op s2_lt (se_cb sn_len (sa_cons se_var sa_nil)) se_var)))) (ss_seq (ss_asg (se_tup (sa_cons (se_callF hcl (sa_cons se_var (sa_cons se_var (sa_cons se_var (sa_cons se_var (sa_cons se_var (sa_cons se_var sa_nil))))))) (sa_cons (se_callF hcl (sa_cons se_var (sa_cons se_var (sa_cons se_var (sa_cons se_var (sa_cons se_var (sa_cons se_var sa_nil))))))) sa_nil))) sg_name)
      (ss_append (se_if (st_test (se_op s2_eq (se_callK hcl (sa_cons se_int sa_nil)) se_int)) se_var (se_rev se_var)))) ss_next)))))))
      (ss_seq (ss_asg (se_own (seo_lc (si_zip (sa_cons (se_callK hcl (sa_cons (se_cb sn_len (sa_cons se_var sa_nil)) sa_nil)) (sa_cons se_var sa_nil))) (sg_tup (sgs_cons sg_name (sgs_cons sg_name sgs_nil))) (by decide) st_yes (se_op s2_add (se_tup (sa_cons se_var sa_nil)) (se_cb sn_tupleOf (sa_cons se_var sa_nil))))) sg_name)
      (ss_ret (se_cb sn_tupleOf (sa_cons se_var sa_nil))))), fun ds Qd h => ?_⟩⟩
  obtain ⟨most, rfl, h1, q⟩ := h
  refine ⟨fun ρ => ∃ (ps : List PyData) (a b c d e f g h i j : Sl), ρ = [.dk, .d (.int (most : Nat)), .d (.list ps), a, b, c, d, e, f, g, h, i, j] ∧ ps.length ≤ most ∧ (∀ p ∈ ps, qB 60 p = true ∧ qnB p = true) ∧ ps.Pairwise Off, ⟨by decide, by decide, fun r0 _ _ => ⟨rfl, rfl, iteB_i (fun t1 => ?_) (fun t1 => ?_)⟩⟩, ?_⟩
  · refine ⟨by omega, lt18 (by omega), fun r1 a0 a1 => ⟨(by show 3 ≤ 1000; decide), (by show 0 < 3; decide), (by show 3 ≤ 1000; decide), fun v hv => ?_⟩⟩
    obtain ⟨m, rfl, hm⟩ : ∃ m : Nat, v = .int (m : Nat) ∧ m ≤ 60 := allc (p := fun v => ∃ m : Nat, v = .int (m : Nat) ∧ m ≤ 60) ⟨4, rfl, by decide⟩ (allc ⟨9, rfl, by decide⟩ (allc ⟨60, rfl, by decide⟩ alln)) v hv
    obtain ⟨n, rfl⟩ : ∃ n : Nat, r1 = n := ⟨r1.toNat, by omega⟩
    exact ⟨n, m, rfl, by omega, hm, fun ps hl hp ho => ⟨ps, _, _, _, _, _, _, _, _, _, _, rfl, by omega, hp, ho⟩⟩
  · refine ⟨by decide, by decide, fun r1 a0 a1 => ⟨by decide, by decide, fun r2 _ _ => ⟨rfl, rfl, (by show 4 ≤ 1000; decide), (by show 0 < 4; decide), (by show 4 ≤ 1000; decide), fun v hv => ?_⟩⟩⟩
    obtain ⟨sc, rfl, hsc, hs0⟩ : ∃ m : Int, v = .int m ∧ m.natAbs ≤ 3 ∧ m ≠ 0 := allc (p := fun v => ∃ m : Int, v = .int m ∧ m.natAbs ≤ 3 ∧ m ≠ 0) ⟨1, rfl, by decide, by decide⟩ (allc ⟨2, rfl, by decide, by decide⟩ (allc ⟨3, rfl, by decide, by decide⟩ (allc ⟨1, rfl, by decide, by decide⟩ alln))) v hv
    obtain ⟨many, rfl⟩ : ∃ n : Nat, r1 = n := ⟨r1.toNat, by omega⟩
    refine ⟨_, _, _, rfl, by decide, by decide, fun r3 c0 c1 => ⟨by decide, by decide, fun r4 e0 e1 => ?_⟩⟩
    refine ⟨(by show 0 ≤ 1000; decide), rfl, fun lay hlay => ?_⟩
    obtain ⟨ls, rfl, hls, hrows⟩ := layP_is hlay
    refine ⟨by omega, by omega, fun row hrow => ?_⟩
    obtain ⟨qs, rfl, hql, hqs, hqo⟩ := rowP_is (hrows row hrow)
    have hx : (r3 - 10).natAbs ≤ 10 := by omega
    have hy : (r4 - 10).natAbs ≤ 10 := by omega
    generalize PyData.eqv (.int r2) (.int 0) = mir
    refine loop_ind (fun r ρ => (∀ y ∈ r, qB 12 y = true ∧ qnB y = true) ∧ r.Pairwise Off ∧ ∃ (ss : List PyData) (s8 s9 s10 s11 s12 : Sl), ρ = [.dk, .d (.int (most : Nat)), .own ss, .d (.int (many : Nat)), .d (.bool mir), .d (.int sc), .d (.int (r3 - 10)), .d (.int (r4 - 10)), s8, s9, s10, s11, s12] ∧ ss.length ≤ most ∧ (∀ p ∈ ss, qB 60 p = true ∧ qnB p = true) ∧ ss.Pairwise Off ∧ ∀ z ∈ ss, ∀ y ∈ r, Off z (imgP many mir sc (r3 - 10) (r4 - 10) y)) (fun ρ h => ?_) (fun y r ρ h N hN => ?_) _ ⟨hqs, hqo, [], .any, .any, .any, .any, .any, rfl, Nat.zero_le _, alln, List.Pairwise.nil, alln⟩
    · obtain ⟨_, _, ss, s8, s9, s10, s11, s12, rfl, hl, hp, ho, _⟩ := h
      exact ⟨ss, _, _, _, _, _, _, _, _, _, _, rfl, hl, hp, ho⟩
    · obtain ⟨hr, hro, ss, s8, s9, s10, s11, s12, rfl, hl, hp, ho, hoi⟩ := h
      have hro' := (List.pairwise_cons.mp hro).2
      have hoi' : ∀ z ∈ ss, ∀ y ∈ r, Off z (imgP many mir sc (r3 - 10) (r4 - 10) y) := fun z hz y hy => hoi z hz y (List.mem_cons_of_mem _ hy)
      have hr' : ∀ z ∈ r, qB 12 z = true ∧ qnB z = true := fun z hz => hr z (List.mem_cons_of_mem _ hz)
      obtain ⟨a1, b1, a2, b2, rfl, g1, g2, g3, g4⟩ := qB_is (hr y List.mem_cons_self).1
      have ne0 := qn_is (hr _ List.mem_cons_self).2
      have stay : N [.dk, .d (.int (most : Nat)), .own ss, .d (.int (many : Nat)), .d (.bool mir), .d (.int sc), .d (.int (r3 - 10)), .d (.int (r4 - 10)), .d (prD a1 b1), .d (prD a2 b2), s10, s11, s12] := hN _ ⟨hr', hro', ss, _, _, _, _, _, rfl, hl, hp, ho, hoi'⟩
      refine ⟨rfl, by decide, by decide, fun r5 _ _ => iteB_i (fun t2 => iteB_i (fun t3 => ?_) (fun t3 => stay)) (fun t2 => stay)⟩
      have t3 : ((ss.length : Nat) : Int) < (most : Nat) := of_decide_eq_true t3
      obtain ⟨m1, m2⟩ := mv_bound (k := many) (mir := mir) g1 g2 hsc hx hy
      obtain ⟨m3, m4⟩ := mv_bound (k := many) (mir := mir) g3 g4 hsc hx hy
      refine ⟨a1, b1, many, mir, sc, _, _, rfl, by omega, lt400 g1, lt400 g2, lt400 hsc, a2, b2, many, mir, sc, _, _, rfl, by omega, lt400 g3, lt400 g4, lt400 hsc, (by show 2 ≤ 1000; decide), by omega, by decide, by decide, fun r6 _ _ => ⟨rfl, rfl, iteB_i (fun t4 => ?_) (fun t4 => ?_)⟩⟩
      · refine hN _ ⟨hr', hro', ss ++ [.tuple [prD _ _, prD _ _]], _, _, _, _, _, rfl, ?_, fun z hz => ?_, ?_, fun z hz y hy => ?_⟩
        · rw [List.length_append]
          show ss.length + 1 ≤ most
          omega
        · rcases List.mem_append.mp hz with hz | hz
          · exact hp z hz
          · rw [List.mem_singleton.mp hz]
            exact ⟨qB_mk m1 m2 m3 m4, qn_mk (mov_ne hs0 ne0)⟩
        · refine List.pairwise_append.mpr ⟨ho, List.pairwise_singleton _ _, fun u hu v hv => ?_⟩
          rw [List.mem_singleton.mp hv]
          obtain ⟨e1, f1, e2, f2, rfl, _⟩ := qB_is (hp u hu).1
          have k := hoi _ hu _ List.mem_cons_self
          exact k
        · rcases List.mem_append.mp hz with hz | hz
          · exact hoi' z hz y hy
          · rw [List.mem_singleton.mp hz]
            obtain ⟨e1, f1, e2, f2, rfl, _⟩ := qB_is (hr' y hy).1
            have k := (List.pairwise_cons.mp hro).1 _ hy
            have k2 := img_off (k := many) (mir := mir) (x := r3 - 10) (y := r4 - 10) hs0 (e := e1) (f := f1) (g := e2) (h := f2) ne0
            exact k2.trans k
      · refine hN _ ⟨hr', hro', ss ++ [.tuple [prD _ _, prD _ _]], _, _, _, _, _, rfl, ?_, fun z hz => ?_, ?_, fun z hz y hy => ?_⟩
        · rw [List.length_append]
          show ss.length + 1 ≤ most
          omega
        · rcases List.mem_append.mp hz with hz | hz
          · exact hp z hz
          · rw [List.mem_singleton.mp hz]
            exact ⟨qB_mk m3 m4 m1 m2, qn_mk ((mov_ne hs0 ne0).imp Ne.symm Ne.symm)⟩
        · refine List.pairwise_append.mpr ⟨ho, List.pairwise_singleton _ _, fun u hu v hv => ?_⟩
          rw [List.mem_singleton.mp hv]
          obtain ⟨e1, f1, e2, f2, rfl, _⟩ := qB_is (hp u hu).1
          have k := hoi _ hu _ List.mem_cons_self
          exact (clash_turn2 (qn_is (hp _ hu).2)).trans k
        · rcases List.mem_append.mp hz with hz | hz
          · exact hoi' z hz y hy
          · rw [List.mem_singleton.mp hz]
            obtain ⟨e1, f1, e2, f2, rfl, _⟩ := qB_is (hr' y hy).1
            have k := (List.pairwise_cons.mp hro).1 _ hy
            have k2 := img_off (k := many) (mir := mir) (x := r3 - 10) (y := r4 - 10) hs0 (e := e1) (f := f1) (g := e2) (h := f2) ne0
            exact (clash_turn1 (mov_ne hs0 ne0) (mov_ne hs0 (qn_is (hr' _ hy).2))).trans (k2.trans k)
  · rintro ρ ⟨ps, a, b, c, d, e, f, g, h, i, j, rfl, hl, hp, ho⟩
    refine ⟨ps.length, rfl, by omega, fun ns hn hnd hnm => ⟨?_, comp_map wallOf _ [] (fun z hz k hk => ?_) ?_⟩⟩
    · rw [zip_len]
      omega
    · obtain ⟨x, y, hx, hy, rfl⟩ := zip_mem hz
      obtain ⟨n, hn', rfl⟩ := List.mem_map.mp hx
      obtain ⟨e1, f1, e2, f2, rfl, c1, c2, c3, c4⟩ := qB_is (hp y hy).1
      exact ⟨rfl, (by show 1 ≤ 1000; decide), (by show 1 + 2 ≤ 100000; decide), hk⟩
    · obtain ⟨wl, e, s, l, r, o⟩ := zip_plan (ns := ns) (ps := ps) hnm hp ho
      rw [List.nil_append, e]
      exact q wl (by omega) ⟨⟨fun w hw => (r w hw).1, s.nodup hnd⟩, o⟩ fun w hw => hnm _ (s.subset (List.mem_map_of_mem hw))
/-! ### _law_crossed_plan -/
abbrev s__law_crossed_plan : Stmt := topS 43
theorem sc__law_crossed_plan : FnScope ["deck", "most", "plan", "turn_v", "p", "q", "m", "x", "at"] ["deck", "most"] (defScope s__law_crossed_plan) := ⟨rfl, rfl, rfl, by decide +kernel, rfl, by decide +kernel, by decide +kernel⟩
def m__law_crossed_plan : Md := fun ds Q _ => ∃ most : Nat, ds = [.int most] ∧ most ≤ 9 ∧ ∀ wl : List Wl, wl.length ≤ 9 → Row wl → (∀ w ∈ wl, NmK w.n) → Q (.tuple (wl.map Wl.D))
theorem fk__law_crossed_plan {P : Program} {w : World} {K : PySem.W.Frag} {mg : Str → Option Value} {base : Heap} {cl : Str → Addr} (S : At K mg "_law_crossed_plan" s__law_crossed_plan) (T : Blt mg) (G__law_draw : Fk P w K mg base CX0 1 "_law_draw" ["deck", "many"] (spD true cl m__law_draw)) (G__law_drawn_plan : Fk P w K mg base CX0 5 "_law_drawn_plan" ["deck", "most"] (spD true cl m__law_drawn_plan)) (G__law_pick : Fk P w K mg base CX0 2 "_law_pick" ["deck", "some"] (spD true cl m__law_pick)) :
    Fk P w K mg base CX0 6 "_law_crossed_plan" ["deck", "most"] (spD true cl m__law_crossed_plan) := by
  refine fk_mk0 (n := 1) S sc__law_crossed_plan (fun f fd F => F.binds fun _ _ _ _ _ _ us hl => (match us, hl with | [_, _], _ => rfl)) (fun ds Q E h => by
    obtain ⟨_, rfl, _⟩ := h
    rfl) rfl fun fa cdv A outer s H E hr => ⟨_, (pss_cons (ps_set (i := 2) sc__law_crossed_plan.nd rfl (.inl rfl) (pe_cl G__law_drawn_plan (hr.mono (by decide : 5 ≤ 5)) (by rfl) pass0 (pa_cons (pv 0) (pa_cons (pv 1) pa_nil))))
      (Evl.pss_cut (ps_for PassesOwn.never rfl (pi_range1 (by rfl) T.range (pa_cons (pe_cl G__law_pick (hr.mono (by decide : 2 ≤ 5)) (by rfl) pass0 (pa_cons (pv 0) (pa_cons (pe_lst (pa_cons pe_int (pa_cons pe_int (pa_cons pe_int (pa_cons pe_int pa_nil))))) pa_nil))) pa_nil)) (pg_name (i := 3) sc__law_crossed_plan.nd rfl (.inl rfl)) (pss_one (ps_if (PW.pt (pw_and (pt_cmpR op_gt (pe_callB (qc_len (K := K) rfl) (by rfl) T.len (by decide +kernel) (pa_cons (pv 2) pa_nil)) pe_int (nomark _)) (pw_and1 (pt_cmpR op_lt (pe_callB (qc_len (K := K) rfl) (by rfl) T.len (by decide +kernel) (pa_cons (pv 2) pa_nil)) pe_int (nomark _))))) (pss_cons (ps_par (i := 4) (j := 5) (by rfl) sc__law_crossed_plan.nd rfl rfl (by decide) rfl rfl (pa_cons (qe_ix (K := K) rfl (pe_cl G__law_pick (hr.mono (by decide : 2 ≤ 5)) (by rfl) pass0 (pa_cons (pv 0) (pa_cons (pv 2) pa_nil))) pe_int) (pa_cons (qe_ix (K := K) rfl (pe_cl G__law_pick (hr.mono (by decide : 2 ≤ 5)) (by rfl) pass0 (pa_cons (pv 0) (pa_cons (pv 2) pa_nil))) pe_int) pa_nil)) (by rfl))
      (pss_cons (ps_set (i := 6) sc__law_crossed_plan.nd rfl (.inl rfl) (pe_cl G__law_pick (hr.mono (by decide : 2 ≤ 5)) (by rfl) pass0 (pa_cons (pv 0) (pa_cons (pe_lst (pa_cons (pe_tup (pa_cons (qe_ix (K := K) rfl (pv 5) pe_int) (pa_cons (qe_ix (K := K) rfl (pv 4) pe_int) pa_nil))) (pa_cons (pe_tup (pa_cons (qe_add (K := K) rfl (qe_ix (K := K) rfl (pv 4) pe_int) pe_int) (pa_cons (pe_op op_sub (qe_ix (K := K) rfl (pv 4) pe_int) pe_int) pa_nil))) (pa_cons (pe_tup (pa_cons (pe_op op_sub (pe_op op_mulW (qe_ix (K := K) rfl (pv 5) pe_int) pe_int) (qe_ix (K := K) rfl (pv 4) pe_int)) (pa_cons (pe_op op_sub (pe_op op_mulW (qe_ix (K := K) rfl (pv 5) pe_int) pe_int) (qe_ix (K := K) rfl (pv 4) pe_int)) pa_nil))) (pa_cons (pe_tup (pa_cons (pe_op op_fdivW (qe_add (K := K) rfl (qe_ix (K := K) rfl (pv 4) pe_int) (qe_ix (K := K) rfl (pv 5) pe_int)) pe_int) (pa_cons (pe_op op_fdivW (qe_add (K := K) rfl (qe_ix (K := K) rfl (pv 4) pe_int) (qe_ix (K := K) rfl (pv 5) pe_int)) pe_int) pa_nil))) (pa_cons (pv 5) pa_nil)))))) pa_nil))))
      (pss_cons (ps_asg (pe_cl G__law_pick (hr.mono (by decide : 2 ≤ 5)) (by rfl) pass0 (pa_cons (pv 0) (pa_cons (pe_lst (pa_cons (pe_tup (pa_cons (pv 4) (pa_cons (pv 6) pa_nil))) (pa_cons (pe_tup (pa_cons (pv 6) (pa_cons (pv 5) pa_nil))) (pa_cons (pe_tup (pa_cons (pv 6) (pa_cons (pe_tup (pa_cons (pe_op op_sub (qe_ix (K := K) rfl (pv 6) pe_int) pe_int) (pa_cons (qe_add (K := K) rfl (qe_ix (K := K) rfl (pv 6) pe_int) pe_int) pa_nil))) pa_nil))) (pa_cons (pe_tup (pa_cons (pv 4) (pa_cons (pv 5) pa_nil))) (pa_cons (pe_tup (pa_cons (pe_tup (pa_cons (pe_op op_sub (qe_ix (K := K) rfl (pv 4) pe_int) pe_int) (pa_cons (qe_ix (K := K) rfl (pv 4) pe_int) pa_nil))) (pa_cons (pe_tup (pa_cons (qe_ix (K := K) rfl (pv 5) pe_int) (pa_cons (qe_add (K := K) rfl (qe_ix (K := K) rfl (pv 5) pe_int) pe_int) pa_nil))) pa_nil))) pa_nil)))))) pa_nil))) (qg_tup (K := K) (n := 2) rfl rfl (pgs_cons (pg_name (i := 4) sc__law_crossed_plan.nd rfl (.inl rfl)) (pgs_cons (pg_name (i := 5) sc__law_crossed_plan.nd rfl (.inl rfl)) pgs_nil))))
      (pss_one (ps_if (PW.pt (pw_and (pt_cmpR (qo_ne (K := K) rfl hr.units) (pv 4) (pv 5) (nomark _)) (pw_and1 (pt_cmpR op_le (pe_callB (qc_maxL (K := K) rfl rfl) (by rfl) T.max (by decide +kernel) (pa_cons (pe_lc (own := [("x", 7)]) rfl sc__law_crossed_plan.nd (pi_any (K := K) rfl (qe_add (K := K) rfl (pv 4) (pv 5))) (blkOk_by (own := [("x", 7)]) (N := ["deck", "most", "plan", "turn_v", "p", "q", "m", "x", "at"]) (sc := defScope s__law_crossed_plan) (by decide +kernel)) (fun _ _ _ _ _ => (pg_name (i := 7) sc__law_crossed_plan.nd rfl (Or.inl rfl))) (fun _ _ _ _ _ => pts_nil) (fun _ _ _ _ _ => (pe_callB cr_abs (by rfl) T.abs (by decide +kernel) (pa_cons (pv 7) pa_nil)))) pa_nil)) pe_int (nomark _))))) (pss_cons (ps_set (i := 8) sc__law_crossed_plan.nd rfl (.inl rfl) (pe_cl G__law_draw (hr.mono (by decide : 1 ≤ 5)) (by rfl) pass0 (pa_cons (pv 0) (pa_cons (qe_add (K := K) rfl (pe_callB (qc_len (K := K) rfl) (by rfl) T.len (by decide +kernel) (pa_cons (pv 2) pa_nil)) pe_int) pa_nil))))
      (pss_one (ps_set (i := 2) sc__law_crossed_plan.nd rfl (.inl rfl) (qe_add (K := K) rfl (qe_add (K := K) rfl (qe_sl (K := K) rfl (pv 2) po_none (po_some (pv 8))) (pe_tup (pa_cons (pe_tup (pa_cons (qe_add (K := K) rfl pe_str (pe_callTy cr_str1 (by rfl) T.str (by decide +kernel) (pa_cons (pv 3) pa_nil))) (pa_cons (pv 4) (pa_cons (pv 5) pa_nil)))) pa_nil))) (qe_sl (K := K) rfl (pv 2) (po_some (pv 8)) po_none))))) pss_nil))))) pss_nil)))
      (pss_one (ps_ret (pv 2))))), fun f hcl => ⟨_, (ss_seq (ss_asg (se_callK hcl (sa_cons se_var sa_nil)) sg_name)
      (ss_cut (ss_loop (si_rng1 (sa_cons (se_callK hcl (sa_cons (se_lst (sa_cons se_int (sa_cons se_int (sa_cons se_int (sa_cons se_int sa_nil))))) sa_nil)) sa_nil)) sg_name (ss_if (st_and (st_test (se_op s2_gt (se_cb sn_len (sa_cons se_var sa_nil)) se_int)) (st_test (se_op s2_lt (se_cb sn_len (sa_cons se_var sa_nil)) se_int))) (ss_seq (ss_par (sa_cons (se_op s2_ix (se_callK hcl (sa_cons se_var sa_nil)) se_int) (sa_cons (se_op s2_ix (se_callK hcl (sa_cons se_var sa_nil)) se_int) sa_nil)))
      (ss_seq (ss_asg (se_callK hcl (sa_cons (se_lst (sa_cons (se_tup (sa_cons (se_op s2_ix se_var se_int) (sa_cons (se_op s2_ix se_var se_int) sa_nil))) (sa_cons (se_tup (sa_cons (se_op s2_add (se_op s2_ix se_var se_int) se_int) (sa_cons (se_op s2_sub (se_op s2_ix se_var se_int) se_int) sa_nil))) (sa_cons (se_tup (sa_cons (se_op s2_sub (se_op s2_mul (se_op s2_ix se_var se_int) se_int) (se_op s2_ix se_var se_int)) (sa_cons (se_op s2_sub (se_op s2_mul (se_op s2_ix se_var se_int) se_int) (se_op s2_ix se_var se_int)) sa_nil))) (sa_cons (se_tup (sa_cons (se_op s2_div (se_op s2_add (se_op s2_ix se_var se_int) (se_op s2_ix se_var se_int)) se_int) (sa_cons (se_op s2_div (se_op s2_add (se_op s2_ix se_var se_int) (se_op s2_ix se_var se_int)) se_int) sa_nil))) (sa_cons se_var sa_nil)))))) sa_nil)) sg_name)
      (ss_seq (ss_asg (se_callK hcl (sa_cons (se_lst (sa_cons (se_tup (sa_cons se_var (sa_cons se_var sa_nil))) (sa_cons (se_tup (sa_cons se_var (sa_cons se_var sa_nil))) (sa_cons (se_tup (sa_cons se_var (sa_cons (se_tup (sa_cons (se_op s2_sub (se_op s2_ix se_var se_int) se_int) (sa_cons (se_op s2_add (se_op s2_ix se_var se_int) se_int) sa_nil))) sa_nil))) (sa_cons (se_tup (sa_cons se_var (sa_cons se_var sa_nil))) (sa_cons (se_tup (sa_cons (se_tup (sa_cons (se_op s2_sub (se_op s2_ix se_var se_int) se_int) (sa_cons (se_op s2_ix se_var se_int) sa_nil))) (sa_cons (se_tup (sa_cons (se_op s2_ix se_var se_int) (sa_cons (se_op s2_add (se_op s2_ix se_var se_int) se_int) sa_nil))) sa_nil))) sa_nil)))))) sa_nil)) (sg_tup (sgs_cons sg_name (sgs_cons sg_name sgs_nil))))
      (ss_if (st_and (st_test (se_op s2_ne se_var se_var)) (st_test (se_op s2_le (se_cb sn_maxL (sa_cons (se_own (seo_lc (si_any (se_op s2_add se_var se_var)) sg_name (by decide) st_yes (se_cb sn_abs (sa_cons se_var sa_nil)))) sa_nil)) se_int))) (ss_seq (ss_asg (se_callK hcl (sa_cons (se_op s2_add (se_cb sn_len (sa_cons se_var sa_nil)) se_int) sa_nil)) sg_name)
      (ss_asg (se_op s2_add (se_op s2_add (se_sl s3_sl se_var so_none (so_some se_var)) (se_tup (sa_cons (se_tup (sa_cons (se_op s2_add se_str (se_cb sn_str1 (sa_cons se_var sa_nil))) (sa_cons se_var (sa_cons se_var sa_nil)))) sa_nil))) (se_sl s3_sl se_var (so_some se_var) so_none)) sg_name)) ss_next)))) ss_next))
      (ss_ret se_var))), fun ds Qd h => ?_⟩⟩
  obtain ⟨most, rfl, h1, q⟩ := h
  have pl : ∀ {wl : List Wl}, wl.length ≤ 9 → (wl.map Wl.D).length ≤ 9 := fun h => by rw [List.length_map]; exact h
  refine ⟨most, rfl, h1, fun wl0 hl0 hn0 hm0 => ⟨fun ρ => ∃ (wl : List Wl) (a b c d e f : Sl), ρ = [.dk, .d (.int (most : Nat)), .d (.tuple (wl.map Wl.D)), a, b, c, d, e, f] ∧ wl.length ≤ 9 ∧ Row wl ∧ ∀ w ∈ wl, NmK w.n, ?_, ?_⟩⟩
  · refine ⟨(by show 4 ≤ 1000; decide), (by show 0 < 4; decide), (by show 4 ≤ 1000; decide), fun v hv => ?_⟩
    obtain ⟨t, rfl, ht⟩ : ∃ m : Nat, v = .int (m : Nat) ∧ m ≤ 2 := allc (p := fun v => ∃ m : Nat, v = .int (m : Nat) ∧ m ≤ 2) ⟨0, rfl, by decide⟩ (allc ⟨1, rfl, by decide⟩ (allc ⟨1, rfl, by decide⟩ (allc ⟨2, rfl, by decide⟩ alln))) v hv
    refine ⟨by omega, by omega, loop_ind (fun r ρ => ∃ k : Nat, r = rngD (k : Nat) (t - k) ∧ ∃ (wl : List Wl) (a b c d e f : Sl), ρ = [.dk, .d (.int (most : Nat)), .d (.tuple (wl.map Wl.D)), a, b, c, d, e, f] ∧ wl.length ≤ 9 ∧ Row wl ∧ ∀ w ∈ wl, w.n ∈ tenS ∨ ∃ j, j < k ∧ j < 2 ∧ w.n = newS j) (fun ρ h => ?_) (fun x r ρ h N hN => ?_) _ ⟨0, ?_, wl0, .any, .any, .any, .any, .any, .any, rfl, by omega, hn0.toRow, fun w hw => .inl (hm0 w hw)⟩⟩
    · obtain ⟨k, _, wl, a, b, c, d, e, f, rfl, hl, hn, hmm⟩ := h
      exact ⟨wl, _, _, _, _, _, _, rfl, hl, hn, fun w hw => (hmm w hw).imp id fun ⟨j, _, e⟩ => ⟨j, e⟩⟩
    · obtain ⟨i, er, wl, a, b, c, d, e, f, rfl, hl, hn, hmm⟩ := h
      obtain ⟨tm, etm, rfl, rfl⟩ := rng_at er
      have hi : i ≤ 1 := by omega
      have er' : rngD ((i : Nat) + 1) tm = rngD ((i + 1 : Nat) : Nat) (t - (i + 1)) := by rw [show t - (i + 1) = tm by omega]; rfl
      have hm' : ∀ w ∈ wl, w.n ∈ tenS ∨ ∃ j, j < i + 1 ∧ j < 2 ∧ w.n = newS j := fun w hw => (hmm w hw).imp id fun ⟨j, hj, e⟩ => ⟨j, by omega, e⟩
      have hl' := pl hl
      have stay : ∀ {b c d e f : Sl}, N [.dk, .d (.int (most : Nat)), .d (.tuple (wl.map Wl.D)), .d (.int (i : Nat)), b, c, d, e, f] := hN _ ⟨i + 1, er', wl, _, _, _, _, _, _, rfl, hl, hn, hm'⟩
      refine iteB_i (fun t1 => iteB_i (fun t2 => ?_) (fun t2 => stay)) (fun t1 => stay)
      have t1 : (0 : Int) < ((wl.map Wl.D).length : Nat) := of_decide_eq_true t1
      have t2 : (((wl.map Wl.D).length : Nat) : Int) < 9 := of_decide_eq_true t2
      refine ⟨by omega, by omega, fun y1 hy1 => ?_⟩
      obtain ⟨w1, hw1, rfl⟩ := mem_wall hy1
      refine ⟨by omega, by omega, fun y2 hy2 => ?_⟩
      obtain ⟨w2, hw2, rfl⟩ := mem_wall hy2
      obtain ⟨_, a1, b1, _, _⟩ := hn.near w1 hw1
      obtain ⟨_, _, _, a2, b2⟩ := hn.near w2 hw2
      have k2 : ∀ {z : Int}, z.natAbs ≤ 60 → CMulW z 2 := fun h => wm (a := 6) (b := 2) (Nat.lt_of_le_of_lt h (by decide)) (by decide)
      have dv2 : ∀ {z : Int}, CDivW z 2 := wide_div (b := 2) (by decide) (by decide) (by decide) (by decide)
      refine ⟨(by show 2 ≤ 1000; decide), (by show 2 ≤ 1000; decide), k2 a2, k2 b2, (by show 2 ≤ 1000; decide), dv2, dv2, (by show 2 ≤ 1000; decide), (by show 5 ≤ 1000; decide), (by show 0 < 5; decide), (by show 5 ≤ 1000; decide), fun v hv => ?_⟩
      obtain ⟨m0, m1, rfl⟩ : ∃ m0 m1 : Int, v = prD m0 m1 := allc (p := fun v => ∃ m0 m1 : Int, v = prD m0 m1) ⟨_, _, rfl⟩ (allc ⟨_, _, rfl⟩ (allc ⟨_, _, rfl⟩ (allc ⟨_, _, rfl⟩ (allc ⟨_, _, rfl⟩ alln)))) v hv
      refine ⟨(by show 2 ≤ 1000; decide), (by show 2 ≤ 1000; decide), (by show 2 ≤ 1000; decide), (by show 2 ≤ 1000; decide), (by show 2 ≤ 1000; decide), (by show 2 ≤ 1000; decide), (by show 2 ≤ 1000; decide), (by show 2 ≤ 1000; decide), (by show 5 ≤ 1000; decide), (by show 0 < 5; decide), (by show 5 ≤ 1000; decide), fun v hv => ?_⟩
      obtain ⟨e0, e1, f0, f1, rfl⟩ : ∃ e0 e1 f0 f1 : Int, v = .tuple [prD e0 e1, prD f0 f1] := allc (p := fun v => ∃ e0 e1 f0 f1 : Int, v = .tuple [prD e0 e1, prD f0 f1]) ⟨_, _, _, _, rfl⟩ (allc ⟨_, _, _, _, rfl⟩ (allc ⟨_, _, _, _, rfl⟩ (allc ⟨_, _, _, _, rfl⟩ (allc ⟨_, _, _, _, rfl⟩ alln)))) v hv
      refine ⟨rfl, shaped_tup [e0, e1], shaped_tup [f0, f1], iteB_i (fun t3 => ?_) (fun t3 => stay)⟩
      refine ⟨(by show 2 + 2 ≤ 100000; decide), (by show 4 ≤ 100000; decide), [absI e0, absI e1, absI f0, absI f1], rfl, (by show 0 < 4; decide), max4 fun m hm => iteB_i (fun t4 => ?_) (fun t4 => stay)⟩
      obtain ⟨g1, g2, g3, g4⟩ := hm (of_decide_eq_true t4)
      refine ⟨by omega, lt18 (by omega), fun r9 r0 r1 => ?_⟩
      obtain ⟨n, rfl⟩ : ∃ n : Nat, r9 = n := ⟨r9.toNat, by omega⟩
      have hn9 : n ≤ (wl.map Wl.D).length := by omega
      have c1 := cut_to hn9
      have c2 := cut_from hn9
      let nw : Wl := ⟨("new" : Str) ++ (toString ((i : Nat) : Int) : String), e0, e1, f0, f1⟩
      have okn : okS (newS i) = true := by
        have h3 : i = 0 ∨ i = 1 := by omega
        rcases h3 with rfl | rfl
        · exact new_ok.1
        · exact new_ok.2
      have hnw : nw.Real := ⟨⟨new_name hi, abs_le g1, abs_le g2, abs_le g3, abs_le g4⟩, (okS_is okn).1, ne_pair t3⟩
      have nout : ∀ w ∈ wl, w.n ≠ newS i := fun w hw z => by
        have h3 : i = 0 ∨ i = 1 := by omega
        rcases hmm w hw with h4 | ⟨j, hj, h4⟩
        · rw [z] at h4
          rcases h3 with rfl | rfl
          · exact new_out.1 h4
          · exact new_out.2.1 h4
        · rw [z] at h4
          rcases h3 with rfl | rfl
          · omega
          · obtain rfl : j = 0 := by omega
            exact new_out.2.2 h4.2.symm
      refine ⟨log2_small (Nat.lt_of_le_of_lt (show ((i : Nat) : Int).natAbs ≤ 1 by omega) (by decide)), ?_, (by show 3 ≤ 1000; decide), (by show 1 ≤ 1000; decide), ?_, ?_, ?_⟩
      · have := (new_name hi).bk
        exact Nat.le_trans (show ("new" : Str).length + (Str.ofString (toString ((i : Nat) : Int))).length ≤ 8 from by
          have h3 : i = 0 ∨ i = 1 := by omega
          rcases h3 with rfl | rfl <;> decide +kernel) (by decide)
      · show (cutD (wl.map Wl.D) none (some (n : Int))).length + 1 ≤ 100000
        have := cut_len (wl.map Wl.D) none (some (n : Int))
        omega
      · show (cutD (wl.map Wl.D) none (some (n : Int)) ++ [nw.D]).length + (cutD (wl.map Wl.D) (some (n : Int)) none).length ≤ 100000
        have z1 := cut_len (wl.map Wl.D) none (some (n : Int))
        have z2 := cut_len (wl.map Wl.D) (some (n : Int)) none
        rw [List.length_append]
        show _ + 1 + _ ≤ _
        omega
      · show N [.dk, .d (.int (most : Nat)), .d (.tuple (cutD (wl.map Wl.D) none (some (n : Int)) ++ [nw.D] ++ cutD (wl.map Wl.D) (some (n : Int)) none)), _, _, _, _, _, _]
        have eq : cutD (wl.map Wl.D) none (some (n : Int)) ++ [nw.D] ++ cutD (wl.map Wl.D) (some (n : Int)) none = (wl.take n ++ [nw] ++ wl.drop n).map Wl.D := by
          rw [c1, c2, List.map_append, List.map_append, List.map_take, List.map_drop]
          rfl
        rw [eq]
        have per : (wl.take n ++ [nw] ++ wl.drop n).Perm (nw :: wl) := by
          rw [List.append_assoc]
          refine (List.perm_middle (a := nw) (l₁ := wl.take n) (l₂ := wl.drop n)).trans ?_
          rw [List.take_append_drop]
        have mem : ∀ w ∈ wl.take n ++ [nw] ++ wl.drop n, w = nw ∨ w ∈ wl := fun w hw => List.mem_cons.mp (per.mem_iff.mp hw)
        refine hN _ ⟨i + 1, er', wl.take n ++ [nw] ++ wl.drop n, _, _, _, _, _, _, rfl, ?_, ⟨fun w hw => ?_, ?_⟩, fun w hw => ?_⟩
        · rw [List.length_map] at t2
          rw [per.length_eq, List.length_cons]
          omega
        · rcases mem w hw with rfl | hw
          · exact hnw
          · exact hn.real w hw
        · refine (per.map _).nodup_iff.mpr ?_
          rw [List.map_cons, List.nodup_cons]
          refine ⟨fun z => ?_, hn.nd⟩
          obtain ⟨w, hw, e⟩ := List.mem_map.mp z
          exact nout w hw e
        · rcases mem w hw with rfl | hw
          · exact .inr ⟨i, by omega, by omega, rfl⟩
          · exact hm' w hw
    · exact rfl
  · rintro ρ ⟨wl, a, b, c, d, e, f, rfl, hl, hn, hk⟩
    exact q wl hl hn hk
end Ey
namespace Ey
open PySem PySem.Spec PyProof.Rows L2
/-! ### _law_text -/
abbrev s__law_text : Stmt := topS 42
theorem sc__law_text : FnScope ["plan", "x", "name", "p", "q"] ["plan"] (defScope s__law_text) := ⟨rfl, rfl, rfl, by decide +kernel, rfl, by decide +kernel, by decide +kernel⟩
def numD : PyData → PyData
  | .int i => .str (numS i)
  | x => x
def m__law_text : Md := fun ds Q _ => ∃ wl : List Wl, ds = [.tuple (wl.map Wl.D)] ∧ (∀ w ∈ wl, w.Real) ∧ wl.length ≤ 9 ∧ Q (.str (textS wl))
theorem fk__law_text {P : Program} {w : World} {K : PySem.W.Frag} {mg : Str → Option Value} {base : Heap} {cl : Str → Addr} (S : At K mg "_law_text" s__law_text) (T : Blt mg) :
    Fk P w K mg base CX0 1 "_law_text" ["plan"] (spD false cl m__law_text) := by
  refine fk_mk0 (n := 1) S sc__law_text (fun f fd F => F.binds fun _ _ _ _ _ _ us hl => (match us, hl with | [_], _ => rfl)) (fun ds Q E h => by
    obtain ⟨_, rfl, _⟩ := h
    rfl) rfl fun fa cdv A outer s H E hr => ⟨_, (pss_one (ps_ret (qe_join (K := K) rfl pe_str (pe_lc (own := [("name", 2), ("p", 3), ("q", 4)]) rfl sc__law_text.nd (pi_any (K := K) rfl (pv 0)) (blkOk_by (own := [("name", 2), ("p", 3), ("q", 4)]) (N := ["plan", "x", "name", "p", "q"]) (sc := defScope s__law_text) (by decide +kernel)) (fun _ _ _ _ _ => (qg_tup (K := K) (n := 3) rfl rfl (pgs_cons (pg_name (i := 2) sc__law_text.nd rfl (Or.inl rfl)) (pgs_cons (pg_name (i := 3) sc__law_text.nd rfl (Or.inl rfl)) (pgs_cons (pg_name (i := 4) sc__law_text.nd rfl (Or.inl rfl)) pgs_nil))))) (fun _ _ _ _ _ => pts_nil) (fun _ _ _ _ _ => (qe_add (K := K) rfl pe_str (qe_join (K := K) rfl pe_str (qe_add (K := K) rfl (pe_lst (pa_cons (pv 2) pa_nil)) (pe_lc (own := [("x", 1)]) rfl sc__law_text.nd (pi_any (K := K) rfl (qe_add (K := K) rfl (pv 3) (pv 4))) (blkOk_by (own := [("x", 1)]) (N := ["plan", "x", "name", "p", "q"]) (by rfl)) (fun _ _ _ _ _ => (pg_name (i := 1) sc__law_text.nd rfl (Or.inl rfl))) (fun _ _ _ _ _ => pts_nil) (fun _ _ _ _ _ => (pe_callTy cr_str1 (by rfl) T.str (by decide +kernel) (pa_cons (pv 1) pa_nil)))))))))))), fun f hcl => ⟨_, (ss_ret (se_join se_str (se_own (seo_lc (si_any se_var) (sg_tup (sgs_cons sg_name (sgs_cons sg_name (sgs_cons sg_name sgs_nil)))) (by decide) st_yes (se_op s2_add se_str (se_join se_str (se_op s2_add (se_lst (sa_cons se_var sa_nil)) (se_own (seo_lc (si_any (se_op s2_add se_var se_var)) sg_name (by decide) st_yes (se_cb sn_str1 (sa_cons se_var sa_nil))))))))))), fun ds Qd h => ?_⟩⟩
  obtain ⟨wl, rfl, hr, hl, q⟩ := h
  refine ⟨by rw [List.length_map]; omega, comp_map (fun x => .str (lineS (wOf x))) _ [] (fun x hx k hk => ?_) ⟨wl.map lineS, ?_, text_sum hr hl, q⟩⟩
  · obtain ⟨w, hw, rfl⟩ := List.mem_map.mp hx
    rw [wOf_D] at hk
    have rw_ := hr w hw
    have lg : ∀ {i : Int}, i.natAbs ≤ 60 → i.natAbs.log2 < 1920 := fun {i} h => Nat.lt_of_le_of_lt (Nat.log2_le_self _) (Nat.lt_of_le_of_lt h (by decide))
    have each : ∀ x ∈ [PyData.int w.a, .int w.b, .int w.c, .int w.d], ∃ i : Int, x = .int i ∧ i.natAbs ≤ 60 := allc (p := fun x => ∃ i : Int, x = .int i ∧ i.natAbs ≤ 60) ⟨_, rfl, rw_.a⟩ (allc ⟨_, rfl, rw_.b⟩ (allc ⟨_, rfl, rw_.c⟩ (allc ⟨_, rfl, rw_.d⟩ alln)))
    have wl5 := jl_len (s := (" " : Str).cps.toList) (m := 10) (by decide +kernel) (ys := ([w.n, numS w.a, numS w.b, numS w.c, numS w.d]).map (·.cps.toList)) fun y hy => by
      obtain ⟨p, hp, rfl⟩ := List.mem_map.mp hy
      have := words_len rw_ p (List.mem_cons_of_mem _ hp)
      rw [Array.length_toList]
      exact this
    rw [← join_cps, Array.length_toList, List.length_map] at wl5
    have wl5 : (Txt.join (" " : Str) [w.n, numS w.a, numS w.b, numS w.c, numS w.d]).length ≤ 11 * 5 := wl5
    refine ⟨rfl, (by show 1 ≤ 1000; decide), (by show 2 + 2 ≤ 100000; decide), (by show 4 ≤ 100000; decide), comp_map numD _ [] (fun x hx k hk => ?_) ⟨(by show 1 + 4 ≤ 100000; decide), [w.n, numS w.a, numS w.b, numS w.c, numS w.d], rfl, ?_, ?_, ?_⟩⟩
    · obtain ⟨i, rfl, hi⟩ := each x hx
      exact ⟨lg hi, hk⟩
    · have e1 := words_len rw_ w.n (by simp [wordsS])
      have e2 := (num_ok rw_.a).len
      have e3 := (num_ok rw_.b).len
      have e4 := (num_ok rw_.c).len
      have e5 := (num_ok rw_.d).len
      have z2 : (" " : Str).length = 1 := by decide +kernel
      rw [z2]
      simp only [List.map_cons, List.map_nil, List.sum_cons, List.sum_nil, List.length_cons, List.length_nil]
      omega
    · have z3 : ("wall " : Str).length = 5 := by decide +kernel
      rw [z3]
      omega
    · rw [line_law]
      exact hk
  · rw [List.nil_append, List.map_map, List.map_map]
    rfl
end Ey
namespace Ey
open PySem PySem.Spec PyProof.Rows L2
/-! ### is_numeral -/
abbrev s_is_numeral : Stmt := topS 18
theorem sc_is_numeral : FnScope ["word", "digits", "sign"] ["word"] (defScope s_is_numeral) := ⟨rfl, rfl, rfl, by decide +kernel, rfl, by decide +kernel, by decide +kernel⟩
def m_is_numeral : Md := fun ds Q _ => ∃ z : Str, ds = [.str z] ∧ Tx 1000 12 z ∧ Q (.bool (numL z.cps.toList))
theorem fk_is_numeral {P : Program} {w : World} {K : PySem.W.Frag} {mg : Str → Option Value} {base : Heap} {cl : Str → Addr} (S : At K mg "is_numeral" s_is_numeral) (T : Blt mg) (gc_DIGITS : ∃ t, mg "DIGITS" = some (.str ("0123456789" : Str) t)) :
    Fk P w K mg base CX0 1 "is_numeral" ["word"] (spD false cl m_is_numeral) := by
  refine fk_mk0 (n := 1) S sc_is_numeral (fun f fd F => F.binds fun _ _ _ _ _ _ us hl => (match us, hl with | [_], _ => rfl)) (fun ds Q E h => by
    obtain ⟨_, rfl, _⟩ := h
    rfl) rfl fun fa cdv A outer s H E hr => ⟨_, (pss_cons (ps_set (i := 1) sc_is_numeral.nd rfl (.inl rfl) (qe_rmpre (pv 0) pe_str))
      (pss_cons (ps_if (PW.pt (pw_or (pt_cmpR (qo_eq (K := K) rfl hr.units) (pv 1) pe_str (nomark _)) (pw_or1 (pt_not (pt_val (pe_callB (qc_all (K := K) rfl rfl) (by rfl) T.all (by decide +kernel) (pa_cons (pe_lc (own := [("sign", 2)]) rfl sc_is_numeral.nd (pi_any (K := K) rfl (pv 1)) (blkOk_by (own := [("sign", 2)]) (N := ["word", "digits", "sign"]) (sc := defScope s_is_numeral) (by decide +kernel)) (fun _ _ _ _ _ => (pg_name (i := 2) sc_is_numeral.nd rfl (Or.inl rfl))) (fun _ _ _ _ _ => pts_nil) (fun _ _ _ _ _ => (pe_cmpR qo_sign (pv 2) (pe_globS (by rfl) gc_DIGITS) (by with_unfolding_all rfl)))) pa_nil))))))) (pss_one (ps_ret pe_bl)) pss_nil)
      (pss_one (ps_ret (pe_or (pe_cmpR (qo_ne (K := K) rfl hr.units) (qe_ix (K := K) rfl (pv 1) pe_int) pe_str (nomark _)) (pe_one (pe_cmpR (qo_eq (K := K) rfl hr.units) (pv 0) pe_str (nomark _)))))))), fun f hcl => ⟨_, (ss_seq (ss_asg (se_rmpre se_var se_str) sg_name)
      (ss_seq (ss_if (st_or (st_test (se_op s2_eq se_var se_str)) (st_not (st_b (se_cb sn_all (sa_cons (se_own (seo_lc (si_any se_var) sg_name (by decide) st_yes (se_op s2_sgn se_var se_str))) sa_nil))))) (ss_ret se_bl) ss_next)
      (ss_ret (se_or (se_op s2_ne (se_op s2_ixA se_var se_int) se_str) (se_op s2_eq se_var se_str))))), fun ds Qd h => ?_⟩⟩
  obtain ⟨z, rfl, hz, q⟩ := h
  have o0 : ∀ z : Str, (z.cps.toList.all fun c => decide (c < 1000)) = true → SeqAt.shaped (.str z) = true := fun z h => shs (okc_lit h)
  have er := rm_minus z
  generalize hd : Txt.removeprefix z ("-" : Str) = d at er
  have dsub : ∀ c ∈ d.cps.toList, c ∈ z.cps.toList := fun c hc => by
    rw [er] at hc
    unfold digL at hc
    split at hc
    · rename_i e
      rw [e]
      exact List.mem_cons_of_mem _ hc
    · exact hc
  have oD : Okc d := fun c hc => hz.ok c (dsub c hc)
  have dl : d.length ≤ 1000 := by
    have h1 : d.length = d.cps.toList.length := (Array.length_toList).symm
    have h2 : z.length = z.cps.toList.length := (Array.length_toList).symm
    have h3 := hz.len
    rw [h1, er]
    rw [h2] at h3
    unfold digL
    split
    · rename_i e
      rw [e, List.length_cons] at h3
      omega
    · exact h3
  have nb : numL z.cps.toList = ((!d.cps.toList.isEmpty && d.cps.toList.all isDg) && (decide (d.cps.toList.head? ≠ some 48) || decide (z.cps.toList = [48]))) := by
    unfold numL bareOk canonL
    rw [er]
  rw [nb] at q
  refine ⟨Nat.le_trans hz.len (by decide), ?_⟩
  rw [hd]
  refine ⟨shs oD, o0 _ (by decide +kernel), ?_⟩
  rw [eqs]
  refine iteB_i (fun h1 => ?_) (fun h1 => ?_)
  · have e : d = ("" : Str) := of_decide_eq_true h1
    rw [e, show ("" : Str).cps.toList = [] by decide +kernel] at q
    exact q
  have ne : d.cps.toList ≠ [] := fun y => of_decide_eq_false h1 (str_ext (y.trans (by decide +kernel)))
  obtain ⟨c, r, ec⟩ := List.exists_cons_of_ne_nil ne
  refine ⟨by rw [strs_len]; exact Nat.le_trans dl (by decide), comp_map (fun x => .bool (match x with | .str t => t.cps.toList.all isDg | _ => false)) _ [] (fun x hx k hk => ?_) (bools (f := fun x => match x with | .str t => t.cps.toList.all isDg | _ => false) ?_)⟩
  · obtain ⟨c', hc', rfl⟩ := List.mem_map.mp hx
    refine ⟨c', rfl, ?_⟩
    show k (.bool (decide (c' ∈ digitsS.cps.toList)))
    rw [dg_digits]
    have e : ((⟨#[c']⟩ : Str).cps.toList.all isDg) = isDg c' := by
      show ([c'].all isDg) = _
      simp
    rw [← e]
    exact hk
  have ea : ((d.cps.toList.map fun c => PyData.str ⟨#[c]⟩).all fun x => match x with | .str t => t.cps.toList.all isDg | _ => false) = d.cps.toList.all isDg := by
    rw [List.all_map]
    congr 1
    funext c
    show ([c].all isDg) = _
    simp
  rw [ea]
  refine iteB_i (fun h2 => ?_) (fun h2 => ?_)
  · have h2 : d.cps.toList.all isDg = false := by simpa using h2
    rw [h2, Bool.and_false, Bool.false_and] at q
    exact q
  have h2 : d.cps.toList.all isDg = true := by simpa using h2
  have ee : d.cps.toList.isEmpty = false := by rw [ec]; rfl
  rw [h2, ee, Bool.and_true, Bool.not_false, Bool.true_and] at q
  have hc : Okc ⟨#[c]⟩ := fun b hb => by
    rw [show (⟨#[c]⟩ : Str).cps.toList = [c] from rfl, List.mem_singleton] at hb
    rw [hb]
    exact oD c (by rw [ec]; exact List.mem_cons_self)
  refine .inr ⟨d, 0, c, rfl, rfl, Nat.le_trans dl (by decide), by rw [atI_0, ec]; rfl, shs hc, o0 _ (by decide +kernel), ?_⟩
  have e0 : ("0" : Str) = ⟨#[48]⟩ := by decide +kernel
  have e1 : PyData.eqv (.str ⟨#[c]⟩) (.str ("0" : Str)) = decide (c = 48) := by
    rw [eqs, e0]
    congr 1
    simp
  have e2 : decide (d.cps.toList.head? ≠ some 48) = !decide (c = 48) := by
    rw [ec, List.head?_cons]
    simp
  rw [e2] at q
  rw [e1]
  refine iteB_i (fun h3 => ?_) (fun h3 => ?_)
  · rw [h3, Bool.true_or] at q
    exact q
  · rw [h3, Bool.false_or] at q
    refine ⟨shs hz.ok, o0 _ (by decide +kernel), ?_⟩
    rw [eqs, e0]
    have e3 : decide (z = ⟨#[48]⟩) = decide (z.cps.toList = [48]) := by
      congr 1
      exact propext ⟨fun y => by rw [y], fun y => str_ext y⟩
    rw [e3]
    exact q
/-! ### read_line -/
abbrev s_read_line : Stmt := topS 17
theorem sc_read_line : FnScope ["line", "words", "word", "x", "y", "u", "v", "wall"] ["line"] (defScope s_read_line) := ⟨rfl, rfl, rfl, by decide +kernel, rfl, by decide +kernel, by decide +kernel⟩
def m_read_line : Md := fun ds Q _ => ∃ z : Str, ds = [.str z] ∧ Tx 200 12 z ∧ Q (segD (Txt.split z (" " : Str)))
theorem fk_read_line {P : Program} {w : World} {K : PySem.W.Frag} {mg : Str → Option Value} {base : Heap} {cl : Str → Addr} (S : At K mg "read_line" s_read_line) (T : Blt mg) (G_is_named_segment : Fk P w K mg base CX0 3 "is_named_segment" ["thing"] (spD false cl m_is_named_segment)) (G_is_numeral : Fk P w K mg base CX0 1 "is_numeral" ["word"] (spD false cl m_is_numeral)) :
    Fk P w K mg base CX0 4 "read_line" ["line"] (spD false cl m_read_line) := by
  refine fk_mk0 (n := 1) S sc_read_line (fun f fd F => F.binds fun _ _ _ _ _ _ us hl => (match us, hl with | [_], _ => rfl)) (fun ds Q E h => by
    obtain ⟨_, rfl, _⟩ := h
    rfl) rfl fun fa cdv A outer s H E hr => ⟨_, (pss_cons (ps_set (i := 1) sc_read_line.nd rfl (.inl rfl) (qe_split (pv 0) pe_str))
      (pss_cons (ps_if (PW.pt (pw_or (pt_cmpR (qo_ne (K := K) rfl hr.units) (pe_callB (qc_len (K := K) rfl) (by rfl) T.len (by decide +kernel) (pa_cons (pv 1) pa_nil)) pe_int (nomark _)) (pw_or (pt_cmpR (qo_ne (K := K) rfl hr.units) (qe_ix (K := K) rfl (pv 1) pe_int) pe_str (nomark _)) (pw_or1 (pt_not (pt_val (pe_callB (qc_all (K := K) rfl rfl) (by rfl) T.all (by decide +kernel) (pa_cons (pe_lc (own := [("word", 2)]) rfl sc_read_line.nd (pi_any (K := K) rfl (qe_sl (K := K) rfl (pv 1) (po_some pe_int) po_none)) (blkOk_by (own := [("word", 2)]) (N := ["line", "words", "word", "x", "y", "u", "v", "wall"]) (sc := defScope s_read_line) (by decide +kernel)) (fun _ _ _ _ _ => (pg_name (i := 2) sc_read_line.nd rfl (Or.inl rfl))) (fun _ _ _ _ _ => pts_nil) (fun _ _ _ _ _ => (pe_cl G_is_numeral (hr.mono (by decide : 1 ≤ 3)) (by rfl) pass0 (pa_cons (pv 2) pa_nil)))) pa_nil)))))))) (pss_one (ps_ret pe_non)) pss_nil)
      (pss_cons (ps_asg (pe_lc (own := [("word", 2)]) rfl sc_read_line.nd (pi_any (K := K) rfl (qe_sl (K := K) rfl (pv 1) (po_some pe_int) po_none)) (blkOk_by (own := [("word", 2)]) (N := ["line", "words", "word", "x", "y", "u", "v", "wall"]) (sc := defScope s_read_line) (by decide +kernel)) (fun _ _ _ _ _ => (pg_name (i := 2) sc_read_line.nd rfl (Or.inl rfl))) (fun _ _ _ _ _ => pts_nil) (fun _ _ _ _ _ => (pe_callTy cr_intS (by rfl) T.int (by decide +kernel) (pa_cons (pv 2) pa_nil)))) (qg_unl (K := K) (n := 4) rfl rfl (pgs_cons (pg_name (i := 3) sc_read_line.nd rfl (.inl rfl)) (pgs_cons (pg_name (i := 4) sc_read_line.nd rfl (.inl rfl)) (pgs_cons (pg_name (i := 5) sc_read_line.nd rfl (.inl rfl)) (pgs_cons (pg_name (i := 6) sc_read_line.nd rfl (.inl rfl)) pgs_nil))))))
      (pss_cons (ps_set (i := 7) sc_read_line.nd rfl (.inl rfl) (pe_tup (pa_cons (qe_ix (K := K) rfl (pv 1) pe_int) (pa_cons (pe_tup (pa_cons (pv 3) (pa_cons (pv 4) pa_nil))) (pa_cons (pe_tup (pa_cons (pv 5) (pa_cons (pv 6) pa_nil))) pa_nil)))))
      (pss_one (ps_ret (pe_ifExp (pt_val (pe_cl G_is_named_segment (hr.mono (by decide : 3 ≤ 3)) (by rfl) pass0 (pa_cons (pv 7) pa_nil))) (pv 7) pe_non))))))), fun f hcl => ⟨_, (ss_seq (ss_asg (se_split se_var se_str) sg_name)
      (ss_seq (ss_if (st_or (st_test (se_op s2_ne (se_cb sn_len (sa_cons se_var sa_nil)) se_int)) (st_or (st_test (se_op s2_ne (se_op s2_ix se_var se_int) se_str)) (st_not (st_b (se_cb sn_all (sa_cons (se_own (seo_lc (si_any (se_sl s3_sl se_var (so_some se_int) so_none)) sg_name (by decide) st_yes (se_callF hcl (sa_cons se_var sa_nil)))) sa_nil)))))) (ss_ret se_non) ss_next)
      (ss_seq (ss_asg (se_own (seo_lc (si_any (se_sl s3_sl se_var (so_some se_int) so_none)) sg_name (by decide) st_yes (se_cb sn_intS (sa_cons se_var sa_nil)))) (sg_unl (sgs_cons sg_name (sgs_cons sg_name (sgs_cons sg_name (sgs_cons sg_name sgs_nil))))))
      (ss_seq (ss_asg (se_tup (sa_cons (se_op s2_ix se_var se_int) (sa_cons (se_tup (sa_cons se_var (sa_cons se_var sa_nil))) (sa_cons (se_tup (sa_cons se_var (sa_cons se_var sa_nil))) sa_nil)))) sg_name)
      (ss_ret (se_if (st_b (se_callF hcl (sa_cons se_var sa_nil))) se_var se_non)))))), fun ds Qd h => ?_⟩⟩
  obtain ⟨z, rfl, hz, q⟩ := h
  have o0 : ∀ z : Str, (z.cps.toList.all fun c => decide (c < 1000)) = true → SeqAt.shaped (.str z) = true := fun z h => shs (okc_lit h)
  have parts : ∀ w ∈ Txt.split z (" " : Str), Tx 200 12 w := fun w hw => by
    rw [sp_is] at hw
    exact hz.word hw
  refine ⟨by decide +kernel, Nat.le_trans hz.len (by decide), ?_⟩
  generalize Txt.split z (" " : Str) = ws at parts q
  refine ⟨rfl, rfl, ?_⟩
  rw [eqi, List.length_map]
  refine iteB_i (fun h1 => ?_) (fun h1 => ?_)
  · have h1 : ¬ ws.length = 6 := by
      have : ¬ ((ws.length : Nat) : Int) = 6 := by simpa using h1
      omega
    have e : segD ws = .none := by
      unfold segD segOk
      rw [decide_eq_false h1, Bool.false_and, if_neg (by decide)]
    rw [e] at q
    exact q
  have h1 : ws.length = 6 := by
    have : ((ws.length : Nat) : Int) = 6 := by simpa using h1
    omega
  obtain ⟨w0, w1, w2, w3, w4, w5, rfl⟩ := sixW h1
  have t0 := parts w0 (by simp)
  have t1 := parts w1 (by simp)
  have t2 := parts w2 (by simp)
  have t3 := parts w3 (by simp)
  have t4 := parts w4 (by simp)
  have t5 := parts w5 (by simp)
  have eo : segOk [w0, w1, w2, w3, w4, w5] = (decide (w0 = ("wall" : Str)) && ((numL w2.cps.toList && (numL w3.cps.toList && (numL w4.cps.toList && (numL w5.cps.toList && true)))) && segB (segWl [w0, w1, w2, w3, w4, w5]).D)) := by
    unfold segOk
    rfl
  unfold segD at q
  rw [eo] at q
  refine ⟨shs t0.ok, o0 _ (by decide +kernel), ?_⟩
  rw [eqs]
  refine iteB_i (fun h2 => ?_) (fun h2 => ?_)
  · have h2 : decide (w0 = ("wall" : Str)) = false := by simpa using h2
    rw [h2, Bool.false_and, if_neg (by decide)] at q
    exact q
  have h2 : decide (w0 = ("wall" : Str)) = true := by simpa using h2
  rw [h2, Bool.true_and] at q
  have cut : ∀ i : Int, i = 2 → cutD ([w0, w1, w2, w3, w4, w5].map .str) (some i) none = [.str w2, .str w3, .str w4, .str w5] := fun i h => by subst h; rfl
  have l4 : ∀ i : Int, i = 2 → (cutD ([w0, w1, w2, w3, w4, w5].map .str) (some i) none).length ≤ 100000 := fun i h => by rw [cut i h]; show 4 ≤ 100000; decide
  have mem : ∀ i : Int, i = 2 → ∀ x ∈ cutD ([w0, w1, w2, w3, w4, w5].map .str) (some i) none, ∃ w : Str, x = .str w ∧ Tx 200 12 w := fun i h x hx => by
    rw [cut i h] at hx
    simp only [List.mem_cons, List.not_mem_nil, or_false] at hx
    rcases hx with rfl | rfl | rfl | rfl
    · exact ⟨_, rfl, t2⟩
    · exact ⟨_, rfl, t3⟩
    · exact ⟨_, rfl, t4⟩
    · exact ⟨_, rfl, t5⟩
  refine ⟨l4 _ rfl, comp_map (fun x => .bool (nmD x)) _ [] (fun x hx k hk => ?_) (bools (f := nmD) ?_)⟩
  · obtain ⟨w, rfl, hw⟩ := mem _ rfl x hx
    exact ⟨w, rfl, hw.mono (by decide) (Nat.le_refl _), hk⟩
  rw [cut _ rfl]
  show iteB (!(numL w2.cps.toList && (numL w3.cps.toList && (numL w4.cps.toList && (numL w5.cps.toList && true))))) _ _
  refine iteB_i (fun h3 => ?_) (fun h3 => ?_)
  · have h3 : (numL w2.cps.toList && (numL w3.cps.toList && (numL w4.cps.toList && (numL w5.cps.toList && true)))) = false := nb_t h3
    rw [h3, Bool.false_and, if_neg (by decide)] at q
    exact q
  have h3 : (numL w2.cps.toList && (numL w3.cps.toList && (numL w4.cps.toList && (numL w5.cps.toList && true)))) = true := nb_f h3
  rw [h3, Bool.true_and] at q
  simp only [Bool.and_eq_true, Bool.and_true] at h3
  obtain ⟨n2, n3, n4, n5⟩ := h3
  have vals : ∀ i : Int, i = 2 → ∀ x ∈ cutD ([w0, w1, w2, w3, w4, w5].map .str) (some i) none, ∃ w : Str, x = .str w ∧ Tx 200 12 w ∧ numL w.cps.toList = true := fun i h x hx => by
    rw [cut i h] at hx
    simp only [List.mem_cons, List.not_mem_nil, or_false] at hx
    rcases hx with rfl | rfl | rfl | rfl
    · exact ⟨_, rfl, t2, n2⟩
    · exact ⟨_, rfl, t3, n3⟩
    · exact ⟨_, rfl, t4, n4⟩
    · exact ⟨_, rfl, t5, n5⟩
  refine ⟨l4 _ rfl, comp_map valD _ [] (fun x hx k hk => ?_) ?_⟩
  · obtain ⟨w, rfl, hw, hn⟩ := vals _ rfl x hx
    refine ⟨Nat.le_trans hw.len (by decide), ?_⟩
    rw [hw.int hn]
    exact hk
  rw [List.nil_append, cut _ rfl]
  have f := wall_fit t1 (val_lt (num_bare n2) t2.run) (val_lt (num_bare n3) t3.run) (val_lt (num_bare n4) t4.run) (val_lt (num_bare n5) t5.run)
  refine ⟨rfl, (by show 2 ≤ 1000; decide), (by show 2 ≤ 1000; decide), (by show 3 ≤ 1000; decide), f.mono (by decide) (by decide), ?_⟩
  refine iteB_i (fun h4 => ?_) (fun h4 => ?_)
  · have h4 : segB (segWl [w0, w1, w2, w3, w4, w5]).D = true := h4
    rw [if_pos h4] at q
    exact q
  · have h4 : segB (segWl [w0, w1, w2, w3, w4, w5]).D = false := h4
    rw [h4, if_neg (by decide)] at q
    exact q
/-! ### fits -/
abbrev s_fits : Stmt := topS 13
theorem sc_fits : FnScope ["walls", "wall", "old"] ["walls", "wall"] (defScope s_fits) := ⟨rfl, rfl, rfl, by decide +kernel, rfl, by decide +kernel, by decide +kernel⟩
def m_fits : Md := fun ds Q _ => ∃ (vl : List Wl) (w : Wl), ds = [.list (vl.map Wl.D), w.D] ∧ vl.length ≤ 1000 ∧ (∀ v ∈ vl, WOk v) ∧ WOk w ∧ Q (.bool (fitsB vl w))
theorem fk_fits {P : Program} {w : World} {K : PySem.W.Frag} {mg : Str → Option Value} {base : Heap} {cl : Str → Addr} (S : At K mg "fits" s_fits) (T : Blt mg) (G_clash : Fk P w K mg base CX0 3 "clash" ["one", "other"] (spD false cl m_clash)) :
    Fk P w K mg base CX0 4 "fits" ["walls", "wall"] (spD false cl m_fits) := by
  refine fk_mk0 (n := 2) S sc_fits (fun f fd F => F.binds fun _ _ _ _ _ _ us hl => (match us, hl with | [_, _], _ => rfl)) (fun ds Q E h => by
    obtain ⟨_, _, rfl, _⟩ := h
    rfl) rfl fun fa cdv A outer s H E hr => ⟨_, (pss_one (ps_ret (pe_callB (qc_all (K := K) rfl rfl) (by rfl) T.all (by decide +kernel) (pa_cons (pe_lc (own := [("old", 2)]) rfl sc_fits.nd (pi_any (K := K) rfl (pv 0)) (blkOk_by (own := [("old", 2)]) (N := ["walls", "wall", "old"]) (sc := defScope s_fits) (by decide +kernel)) (fun _ _ _ _ _ => (pg_name (i := 2) sc_fits.nd rfl (Or.inl rfl))) (fun _ _ _ _ _ => pts_nil) (fun _ _ _ _ _ => (pe_and (pe_cmpR (qo_ne (K := K) rfl hr.units) (qe_ix (K := K) rfl (pv 2) pe_int) (qe_ix (K := K) rfl (pv 1) pe_int) (nomark _)) (pe_one (pe_not (pe_cl G_clash (hr.mono (by decide : 3 ≤ 3)) (by rfl) pass0 (pa_cons (pv 2) (pa_cons (pv 1) pa_nil)))))))) pa_nil)))), fun f hcl => ⟨_, (ss_ret (se_cb sn_all (sa_cons (se_own (seo_lc (si_any se_var) sg_name (by decide) st_yes (se_and (se_op s2_ne (se_op s2_ix se_var se_int) (se_op s2_ix se_var se_int)) (se_not (se_callF hcl (sa_cons se_var (sa_cons se_var sa_nil))))))) sa_nil))), fun ds Qd h => ?_⟩⟩
  obtain ⟨vl, w, rfl, hl, hv, hw, q⟩ := h
  refine ⟨by rw [List.length_map]; omega, comp_map (fun x => .bool (decide ((wOf x).n ≠ w.n) && !clashW (wOf x) w)) _ [] (fun x hx k hk => ?_) (bools (f := fun x => decide ((wOf x).n ≠ w.n) && !clashW (wOf x) w) ?_)⟩
  · obtain ⟨v, hvm, rfl⟩ := List.mem_map.mp hx
    rw [wOf_D] at hk
    have rv := hv v hvm
    obtain ⟨s1, s2⟩ := rv.sm
    obtain ⟨s3, s4⟩ := hw.sm
    refine ⟨shs rv.nm.ok, shs hw.nm.ok, ?_⟩
    rw [eqs]
    by_cases e : v.n = w.n
    · rw [decide_eq_true e]
      rw [decide_eq_false (fun z => z e)] at hk
      exact hk
    · rw [decide_eq_false e]
      rw [decide_eq_true e] at hk
      exact ⟨_, _, _, _, _, _, _, _, _, _, rfl, s1, s2, s3, s4, hk⟩
  · rw [List.all_map]
    exact q
/-! ### read_plan -/
abbrev s_read_plan : Stmt := topS 11
theorem sc_read_plan : FnScope ["text", "walls", "number", "line", "one"] ["text"] (defScope s_read_plan) := ⟨rfl, rfl, rfl, by decide +kernel, rfl, by decide +kernel, by decide +kernel⟩
def m_read_plan : Md := fun ds Q E => ∃ x : PyData, ds = [x] ∧ ((isStr x = false ∧ E "BadText" (.int 0)) ∨ ∃ z, x = .str z ∧ Tx 200 12 z ∧ onRead (readT z) (fun wl => Q (.tuple (wl.map Wl.D))) fun k => E "BadText" (.int (k : Nat)))
theorem fk_read_plan {P : Program} {w : World} {K : PySem.W.Frag} {mg : Str → Option Value} {base : Heap} {cl : Str → Addr} (S : At K mg "read_plan" s_read_plan) (T : Blt mg) {C_BadText B_BadText I_BadText : Addr} (X_BadText : ErrTxt P K mg "BadText" "line" C_BadText B_BadText I_BadText) (hC_BadText : cl "BadText" = C_BadText) (G_fits : Fk P w K mg base CX0 4 "fits" ["walls", "wall"] (spD false cl m_fits)) (G_read_line : Fk P w K mg base CX0 4 "read_line" ["line"] (spD false cl m_read_line)) :
    Fk P w K mg base (L2.CX P w) 5 "read_plan" ["text"] (spD false cl m_read_plan) := by
  refine fk_mkX (n := 1) S sc_read_plan (fun f fd F => F.binds fun _ _ _ _ _ _ us hl => (match us, hl with | [_], _ => rfl)) (fun ds Q E h => by
    obtain ⟨_, rfl, _⟩ := h
    rfl) rfl fun fa cdv A outer s H E hr => ⟨_, (pss_cons (ps_if (pt_not (pt_val (pe_callB (qc_isi (K := K) rfl) (by rfl) T.isinst (by decide +kernel) (pa_cons (pv 0) (pa_cons (pe_bltn (v := .ty "str") (by rfl) T.str (by decide +kernel) rfl) pa_nil))))) (pss_one (ps_raiseEr rfl X_BadText (hr.mono (by decide : 1 ≤ 4)) (takes_of rfl rfl rfl rfl) (pa_cons pe_int pa_nil) (by rfl))) pss_nil)
      (pss_cons (ps_if (pt_cmpR (qo_eq (K := K) rfl hr.units) (pv 0) pe_str (nomark _)) (pss_one (ps_ret (pe_tup pa_nil))) pss_nil)
      (pss_cons (ps_set (i := 1) sc_read_plan.nd rfl (.inl rfl) (pe_lst pa_nil))
      (Evl.pss_cut (ps_for (passes_of rfl) rfl (pi_enum1 (K := K) rfl (by rfl) T.enum (pa_cons (qe_split (pv 0) pe_str) pa_nil) pe_int) (qg_tup (K := K) (n := 2) rfl rfl (pgs_cons (pg_name (i := 2) sc_read_plan.nd rfl (.inl rfl)) (pgs_cons (pg_name (i := 3) sc_read_plan.nd rfl (.inl rfl)) pgs_nil))) (pss_cons (ps_set (i := 4) sc_read_plan.nd rfl (.inl rfl) (pe_cl G_read_line (hr.mono (by decide : 4 ≤ 4)) (by rfl) pass0 (pa_cons (pv 3) pa_nil)))
      (pss_cons (ps_if (PW.pt (pw_or (pt_cmpR op_isN (pv 4) pe_non (nomark _)) (pw_or1 (pt_not (pt_val (pe_cl G_fits (hr.mono (by decide : 4 ≤ 4)) (by rfl) pass0 (pa_cons (pv 1) (pa_cons (pv 4) pa_nil)))))))) (pss_one (ps_raiseEr rfl X_BadText (hr.mono (by decide : 1 ≤ 4)) (takes_of rfl rfl rfl rfl) (pa_cons (pv 2) pa_nil) (by rfl))) pss_nil)
      (pss_one (ps_expr (qe_append (K := K) rfl (pv 1) (pa_cons (pv 4) pa_nil)))))))
      (pss_one (ps_ret (pe_callTy (qc_tuple (K := K) rfl) (by rfl) T.tuple (by decide +kernel) (pa_cons (pv 1) pa_nil)))))))), fun f hcl hE => ⟨_, (ss_seq (ss_if (st_not (st_b (se_isi isi_str se_var))) (ss_raise (c := "BadText") hE hcl hC_BadText (by decide) (fun _ _ _ _ h => h) (sa_cons se_int sa_nil)) ss_next)
      (ss_seq (ss_if (st_test (se_op s2_eq se_var se_str)) (ss_ret (se_tup sa_nil)) ss_next)
      (ss_seq (ss_asgO (seo_lst sa_nil))
      (ss_cut (ss_loop (si_enum1 (sa_cons (se_split se_var se_str) sa_nil)) (sg_tup (sgs_cons sg_name (sgs_cons sg_name sgs_nil))) (ss_seq (ss_asg (se_callF hcl (sa_cons se_var sa_nil)) sg_name)
      (ss_seq (ss_if (st_dem (i := 1) (st_or (st_test (se_op s2_isN se_var se_non)) (st_not (st_b (se_callF hcl (sa_cons se_var (sa_cons se_var sa_nil))))))) (ss_raise (c := "BadText") hE hcl hC_BadText (by decide) (fun _ _ _ _ h => h) (sa_cons se_var sa_nil)) ss_next)
      (ss_append se_var))))
      (ss_ret (se_cb sn_tupleOf (sa_cons se_var sa_nil))))))), fun ds Qd h => ?_⟩⟩
  obtain ⟨x, rfl, h⟩ := h
  have o0 : ∀ z : Str, (z.cps.toList.all fun c => decide (c < 1000)) = true → SeqAt.shaped (.str z) = true := fun z h => shs (okc_lit h)
  rcases h with ⟨h1, e⟩ | ⟨z, rfl, hz, q⟩
  · exact iteB_t (by rw [h1]; rfl) e
  refine ⟨shs hz.ok, o0 _ (by decide +kernel), ?_⟩
  rw [eqs]
  unfold readT at q
  refine iteB_i (fun h1 => ?_) (fun h1 => ?_)
  · rw [if_pos (of_decide_eq_true h1)] at q
    exact ⟨(by show 0 ≤ 1000; decide), q⟩
  rw [if_neg (of_decide_eq_false h1)] at q
  have parts : ∀ w ∈ Txt.split z ("\n" : Str), Tx 200 12 w := fun w hw => by
    rw [nl_is] at hw
    exact hz.word hw
  have nl : (Txt.split z ("\n" : Str)).length ≤ 201 := by
    rw [nl_is]
    exact Nat.le_trans split_len (by have := hz.len; omega)
  refine ⟨(by show 0 ≤ 1000; decide), fun ρ => ∃ (wl : List Wl) (s t u : Sl), ρ = [.d (.str z), .own (wl.map Wl.D), s, t, u] ∧ Qd (.tuple (wl.map Wl.D)), ?_, ?_⟩
  · refine ⟨by decide +kernel, Nat.le_trans hz.len (by decide), ?_⟩
    generalize Txt.split z ("\n" : Str) = ls at parts nl q
    refine loop_ind (fun r ρ => ∃ (k : Nat) (ls : List Str) (found : List Wl) (s t u : Sl), r = enumD k (ls.map .str) ∧ (∀ l ∈ ls, Tx 200 12 l) ∧ (∀ v ∈ found, WOk v) ∧ found.length + ls.length ≤ 201 ∧ ρ = [.d (.str z), .own (found.map Wl.D), s, t, u] ∧ onRead (readL found k ls) (fun wl => Qd (.tuple (wl.map Wl.D))) fun k => f.Ed "BadText" (.int (k : Nat))) (fun ρ h => ?_) (fun x r ρ h N hN => ?_) _ ⟨1, ls, [], .any, .any, .any, rfl, parts, fun v hv => absurd hv List.not_mem_nil, by rw [List.length_nil]; omega, rfl, q⟩
    · obtain ⟨k, ls, found, s, t, u, e, _, _, _, rfl, q⟩ := h
      have e0 : ls = [] := by
        have := enum_none e
        cases ls with
        | nil => rfl
        | cons _ _ => cases this
      subst e0
      exact ⟨found, s, t, u, rfl, q⟩
    · obtain ⟨k, ls, found, s, t, u, e, hls, hf, hn, rfl, q⟩ := h
      obtain ⟨y, ys, ey, rfl, rfl⟩ := enum_at e
      cases ls with
      | nil => cases ey
      | cons l ls =>
        rw [List.map_cons] at ey
        obtain ⟨ey1, ey2⟩ := List.cons.inj ey
        subst ey1
        subst ey2
        have tl := hls l List.mem_cons_self
        have wp : ∀ w ∈ Txt.split l (" " : Str), Tx 200 12 w := fun w hw => by
          rw [sp_is] at hw
          exact tl.word hw
        rw [List.length_cons] at hn
        unfold readL lineOk at q
        refine ⟨rfl, l, rfl, tl, ?_⟩
        generalize Txt.split l (" " : Str) = ws at wp q
        cases hs : segOk ws with
        | false =>
          have e1 : segD ws = .none := by
            unfold segD
            rw [hs, if_neg (by decide)]
          rw [e1]
          rw [hs, Bool.false_and, if_neg (by decide)] at q
          exact q
        | true =>
          rw [segD_wall hs]
          rw [hs, Bool.true_and] at q
          have wk := seg_ok hs wp
          refine ⟨found, segWl ws, rfl, by omega, hf, wk, ?_⟩
          cases hfit : fitsB found (segWl ws) with
          | false =>
            rw [hfit, if_neg (by decide)] at q
            exact q
          | true =>
            rw [hfit, if_pos rfl] at q
            refine ⟨by rw [List.length_map]; omega, hN _ ⟨k + 1, ls, found ++ [segWl ws], .d (.int (k : Nat)), .d (.str l), .d (segWl ws).D, rfl, fun x hx => hls x (List.mem_cons_of_mem _ hx), fun v hv => ?_, ?_, ?_, q⟩⟩
            · rcases List.mem_append.mp hv with hv | hv
              · exact hf v hv
              · rw [List.mem_singleton.mp hv]
                exact wk
            · rw [List.length_append]
              show found.length + 1 + ls.length ≤ 201
              omega
            · rw [List.map_append]
              rfl
  · rintro ρ ⟨wl, s, t, u, rfl, q⟩
    exact q
end Ey
namespace Ey
open PySem PySem.Spec PyProof.Rows L2
/-! ### _law_read_integer -/
abbrev s__law_read_integer : Stmt := topS 39
theorem sc__law_read_integer : FnScope ["text", "bare", "x"] ["text"] (defScope s__law_read_integer) := ⟨rfl, rfl, rfl, by decide +kernel, rfl, by decide +kernel, by decide +kernel⟩
def m__law_read_integer : Md := fun ds Q _ => ∃ z : Str, ds = [.str z] ∧ Tx 200 12 z ∧ Q (numV z)
theorem fk__law_read_integer {P : Program} {w : World} {K : PySem.W.Frag} {mg : Str → Option Value} {base : Heap} {cl : Str → Addr} (S : At K mg "_law_read_integer" s__law_read_integer) (T : Blt mg) :
    Fk P w K mg base CX0 1 "_law_read_integer" ["text"] (spD false cl m__law_read_integer) := by
  refine fk_mk0 (n := 1) S sc__law_read_integer (fun f fd F => F.binds fun _ _ _ _ _ _ us hl => (match us, hl with | [_], _ => rfl)) (fun ds Q E h => by
    obtain ⟨_, rfl, _⟩ := h
    rfl) rfl fun fa cdv A outer s H E hr => ⟨_, (Evl.pss_cut (ps_set (i := 1) sc__law_read_integer.nd rfl (.inl rfl) (pe_ifExp (pt_cmpR (qo_eq (K := K) rfl hr.units) (qe_slW (K := K) rfl (pv 0) po_none (po_some pe_int)) pe_str (nomark _)) (qe_slW (K := K) rfl (pv 0) (po_some pe_int) po_none) (pv 0)))
      (pss_cons (ps_if (PW.pt (pw_or (pt_cmpR (qo_eq (K := K) rfl hr.units) (pv 1) pe_str (nomark _)) (pw_or (pt_cmpR op_gt (pe_callB (qc_len (K := K) rfl) (by rfl) T.len (by decide +kernel) (pa_cons (pv 1) pa_nil)) pe_int (nomark _)) (pw_or1 (pt_cmpR (qo_neNil (K := K) rfl hr.units) (pe_lc (own := [("x", 2)]) rfl sc__law_read_integer.nd (pi_any (K := K) rfl (pv 1)) (blkOk_by (own := [("x", 2)]) (N := ["text", "bare", "x"]) (sc := defScope s__law_read_integer) (by decide +kernel)) (fun _ _ _ _ _ => (pg_name (i := 2) sc__law_read_integer.nd rfl (Or.inl rfl))) (fun _ _ _ _ _ => (pts_one (pt_cmpR qo_nsign (pv 2) pe_str (by with_unfolding_all rfl)))) (fun _ _ _ _ _ => (pv 2))) (pe_lst pa_nil) (nomark _)))))) (pss_one (ps_ret pe_non)) pss_nil)
      (pss_one (ps_ret (pe_ifExp (pt_cmpR (qo_eq (K := K) rfl hr.units) (pe_callTy cr_str1 (by rfl) T.str (by decide +kernel) (pa_cons (pe_callTy cr_intS (by rfl) T.int (by decide +kernel) (pa_cons (pv 0) pa_nil)) pa_nil)) (pv 0) (nomark _)) (pe_callTy cr_intS (by rfl) T.int (by decide +kernel) (pa_cons (pv 0) pa_nil)) pe_non))))), fun f hcl => ⟨_, (ss_cut (ss_asg (se_if (st_test (se_op s2_eq (se_sl s3_slW se_var so_none (so_some se_int)) se_str)) (se_sl s3_slW se_var (so_some se_int) so_none) se_var) sg_name)
      (ss_seq (ss_if (st_or (st_test (se_op s2_eq se_var se_str)) (st_or (st_test (se_op s2_gt (se_cb sn_len (sa_cons se_var sa_nil)) se_int)) (st_test (se_op s2_nil (se_own (seo_lc (si_any se_var) sg_name (by decide) (st_test (se_op s2_sgn se_var se_str)) se_var)) (se_lst sa_nil))))) (ss_ret se_non) ss_next)
      (ss_ret (se_if (st_test (se_op s2_eq (se_cb sn_str1 (sa_cons (se_cb sn_intS (sa_cons se_var sa_nil)) sa_nil)) se_var)) (se_cb sn_intS (sa_cons se_var sa_nil)) se_non)))), fun ds Qd h => ?_⟩⟩
  obtain ⟨z, rfl, hz, q⟩ := h
  have o0 : ∀ z : Str, (z.cps.toList.all fun c => decide (c < 1000)) = true → SeqAt.shaped (.str z) = true := fun z h => shs (okc_lit h)
  refine ⟨fun ρ => ∃ b : Str, ρ = [.d (.str z), .d (.str b), .any] ∧ b.cps.toList = digL z.cps.toList, bare_rd (ρ := [.d (.str z), .any, .any]) rfl hz.ok (Nat.le_trans hz.len (by decide)) fun b eb => ⟨b, rfl, eb⟩, ?_⟩
  rintro ρ ⟨b, rfl, eb⟩
  have bsub : ∀ c ∈ b.cps.toList, c ∈ z.cps.toList := fun c hc => by
    rw [eb] at hc
    unfold digL at hc
    split at hc
    · rename_i e
      rw [e]
      exact List.mem_cons_of_mem _ hc
    · exact hc
  have bl : b.length ≤ z.length := by
    rw [strL, strL, eb]
    unfold digL
    split
    · rename_i e
      rw [e, List.length_cons]
      omega
    · exact Nat.le_refl _
  have hl := hz.len
  have oB : Okc b := fun c hc => hz.ok c (bsub c hc)
  have nb : bareOk z.cps.toList = (!b.cps.toList.isEmpty && b.cps.toList.all isDg) := by
    unfold bareOk
    rw [eb]
  refine ⟨shs oB, o0 _ (by decide +kernel), ?_⟩
  rw [eqs]
  refine iteB_i (fun h1 => ?_) (fun h1 => ?_)
  · have e : b = ("" : Str) := of_decide_eq_true h1
    rw [numV_no (by rw [nb, e, show ("" : Str).cps.toList = [] by decide +kernel]; rfl)] at q
    exact q
  have ne : b.cps.toList ≠ [] := fun y => of_decide_eq_false h1 (str_ext (y.trans (by decide +kernel)))
  have ee : b.cps.toList.isEmpty = false := by
    cases e : b.cps.toList with
    | nil => exact (ne e).elim
    | cons _ _ => rfl
  rw [ee, Bool.not_false, Bool.true_and] at nb
  refine ⟨by omega, ?_⟩
  show iteB (decide ((12 : Int) < ((b.length : Nat) : Int))) _ _
  refine iteB_i (fun h2 => ?_) (fun h2 => ?_)
  · have h2 : (12 : Int) < (b.length : Nat) := of_decide_eq_true h2
    have hb : bareOk z.cps.toList = false := by
      rw [nb]
      cases hd : b.cps.toList.all isDg with
      | false => rfl
      | true =>
        have : RunL 12 b.cps.toList := by
          rw [eb]
          unfold digL
          split
          · rename_i e
            exact run_sub (a := [45]) (b := []) hz.run (by rw [e]; simp)
          · exact hz.run
        have := this [] b.cps.toList [] (by simp) hd
        rw [← strL] at this
        omega
    rw [numV_no hb] at q
    exact q
  refine ⟨by rw [strs_len]; omega, comp_flt (fun x => !dgD x) _ [] (fun x hx R R0 hk => ?_) ⟨by decide, ?_⟩⟩
  · obtain ⟨c', _, rfl⟩ := List.mem_map.mp hx
    refine ⟨c', rfl, ?_⟩
    rw [dg_one, ← dg_digits] at hk
    exact hk
  show iteB (!(((b.cps.toList.map fun c => PyData.str ⟨#[c]⟩).filter fun x => !dgD x).isEmpty)) _ _
  rw [filt_all, dgs_all, ← nb]
  refine iteB_i (fun h3 => ?_) (fun h3 => ?_)
  · rw [numV_no (nb_t h3)] at q
    exact q
  have h3 := nb_f h3
  have iv := int_of h3 (Nat.le_trans hl (by decide))
  have lg : (valL z.cps.toList).natAbs.log2 < 1920 := by
    have := val_lt h3 hz.run
    exact log501 (Nat.lt_of_lt_of_le this (Nat.pow_le_pow_right (by decide) (by decide)))
  have sb := str_back h3
  refine ⟨by omega, ?_⟩
  rw [iv]
  refine ⟨lg, shs (okc_val h3), shs hz.ok, ?_⟩
  rw [show (.str (toString (valL z.cps.toList) : String) : PyData) = .str (numS (valL z.cps.toList)) from rfl, eqs]
  have e3 : decide (numS (valL z.cps.toList) = z) = canonL z.cps.toList := by
    cases hc : canonL z.cps.toList with
    | true => exact decide_eq_true (str_ext (sb.mpr hc))
    | false =>
      refine decide_eq_false fun y => ?_
      rw [sb.mp (by rw [y])] at hc
      cases hc
  rw [e3]
  unfold numV numL at q
  rw [h3, Bool.true_and] at q
  refine iteB_i (fun h4 => ?_) (fun h4 => ?_)
  · rw [if_pos h4] at q
    refine ⟨by omega, ?_⟩
    rw [iv]
    exact q
  · rw [h4, if_neg (by decide)] at q
    exact q
/-! ### _law_read_segment -/
abbrev s__law_read_segment : Stmt := topS 40
theorem sc__law_read_segment : FnScope ["line", "parts", "numbers", "x", "wall"] ["line"] (defScope s__law_read_segment) := ⟨rfl, rfl, rfl, by decide +kernel, rfl, by decide +kernel, by decide +kernel⟩
def m__law_read_segment : Md := fun ds Q _ => ∃ z : Str, ds = [.str z] ∧ Tx 200 12 z ∧ Q (segD (Txt.split z (" " : Str)))
theorem fk__law_read_segment {P : Program} {w : World} {K : PySem.W.Frag} {mg : Str → Option Value} {base : Heap} {cl : Str → Addr} (S : At K mg "_law_read_segment" s__law_read_segment) (T : Blt mg) (G__law_is_segment : Fk P w K mg base CX0 3 "_law_is_segment" ["thing"] (spD false cl m__law_is_segment)) (G__law_read_integer : Fk P w K mg base CX0 1 "_law_read_integer" ["text"] (spD false cl m__law_read_integer)) :
    Fk P w K mg base CX0 4 "_law_read_segment" ["line"] (spD false cl m__law_read_segment) := by
  refine fk_mk0 (n := 1) S sc__law_read_segment (fun f fd F => F.binds fun _ _ _ _ _ _ us hl => (match us, hl with | [_], _ => rfl)) (fun ds Q E h => by
    obtain ⟨_, rfl, _⟩ := h
    rfl) rfl fun fa cdv A outer s H E hr => ⟨_, (pss_cons (ps_set (i := 1) sc__law_read_segment.nd rfl (.inl rfl) (qe_split (pv 0) pe_str))
      (pss_cons (ps_if (PW.pt (pw_or (pt_cmpR (qo_ne (K := K) rfl hr.units) (pe_callB (qc_len (K := K) rfl) (by rfl) T.len (by decide +kernel) (pa_cons (pv 1) pa_nil)) pe_int (nomark _)) (pw_or1 (pt_cmpR (qo_ne (K := K) rfl hr.units) (qe_ix (K := K) rfl (pv 1) pe_int) pe_str (nomark _))))) (pss_one (ps_ret pe_non)) pss_nil)
      (pss_cons (ps_setLc (i := 2) (own := [("x", 3)]) rfl sc__law_read_segment.nd rfl rfl (sw_true rfl rfl rfl (by decide +kernel)) (pi_any (K := K) rfl (qe_sl (K := K) rfl (pv 1) (po_some pe_int) po_none)) (blkOk_by (own := [("x", 3)]) (N := ["line", "parts", "numbers", "x", "wall"]) (sc := defScope s__law_read_segment) (by decide +kernel)) (fun _ _ _ _ _ => (pg_name (i := 3) sc__law_read_segment.nd rfl (Or.inl rfl))) (fun _ _ _ _ _ => pts_nil) (fun _ _ _ _ _ => (pe_cl G__law_read_integer (hr.mono (by decide : 1 ≤ 3)) (by rfl) pass0 (pa_cons (pv 3) pa_nil))))
      (pss_cons (ps_if (pt_cmpR (qo_in (K := K) rfl) pe_non (pv 2) (by with_unfolding_all rfl)) (pss_one (ps_ret pe_non)) pss_nil)
      (pss_cons (ps_set (i := 4) sc__law_read_segment.nd rfl (.inl rfl) (pe_tup (pa_cons (qe_ix (K := K) rfl (pv 1) pe_int) (pa_cons (pe_tup (pa_cons (qe_ix (K := K) rfl (pv 2) pe_int) (pa_cons (qe_ix (K := K) rfl (pv 2) pe_int) pa_nil))) (pa_cons (pe_tup (pa_cons (qe_ix (K := K) rfl (pv 2) pe_int) (pa_cons (qe_ix (K := K) rfl (pv 2) pe_int) pa_nil))) pa_nil)))))
      (pss_one (ps_ret (pe_ifExp (pt_val (pe_cl G__law_is_segment (hr.mono (by decide : 3 ≤ 3)) (by rfl) pass0 (pa_cons (pv 4) pa_nil))) (pv 4) pe_non)))))))), fun f hcl => ⟨_, (ss_seq (ss_asg (se_split se_var se_str) sg_name)
      (ss_seq (ss_if (st_or (st_test (se_op s2_ne (se_cb sn_len (sa_cons se_var sa_nil)) se_int)) (st_test (se_op s2_ne (se_op s2_ix se_var se_int) se_str))) (ss_ret se_non) ss_next)
      (ss_seq (ss_asg (se_own (seo_lc (si_any (se_sl s3_sl se_var (so_some se_int) so_none)) sg_name (by decide) st_yes (se_callF hcl (sa_cons se_var sa_nil)))) sg_name)
      (ss_seq (ss_if (st_test (se_op s2_in se_non se_var)) (ss_ret se_non) ss_next)
      (ss_seq (ss_asg (se_tup (sa_cons (se_op s2_ix se_var se_int) (sa_cons (se_tup (sa_cons (se_op s2_ix se_var se_int) (sa_cons (se_op s2_ix se_var se_int) sa_nil))) (sa_cons (se_tup (sa_cons (se_op s2_ix se_var se_int) (sa_cons (se_op s2_ix se_var se_int) sa_nil))) sa_nil)))) sg_name)
      (ss_ret (se_if (st_b (se_callF hcl (sa_cons se_var sa_nil))) se_var se_non))))))), fun ds Qd h => ?_⟩⟩
  obtain ⟨z, rfl, hz, q⟩ := h
  have o0 : ∀ z : Str, (z.cps.toList.all fun c => decide (c < 1000)) = true → SeqAt.shaped (.str z) = true := fun z h => shs (okc_lit h)
  have parts : ∀ w ∈ Txt.split z (" " : Str), Tx 200 12 w := fun w hw => by
    rw [sp_is] at hw
    exact hz.word hw
  refine ⟨by decide +kernel, Nat.le_trans hz.len (by decide), ?_⟩
  generalize Txt.split z (" " : Str) = ws at parts q
  refine ⟨rfl, rfl, ?_⟩
  rw [eqi, List.length_map]
  refine iteB_i (fun h1 => ?_) (fun h1 => ?_)
  · have h1 : ¬ ws.length = 6 := by
      have : ¬ ((ws.length : Nat) : Int) = 6 := by simpa using h1
      omega
    have e : segD ws = .none := by
      unfold segD segOk
      rw [decide_eq_false h1, Bool.false_and, if_neg (by decide)]
    rw [e] at q
    exact q
  have h1 : ws.length = 6 := by
    have : ((ws.length : Nat) : Int) = 6 := by simpa using h1
    omega
  obtain ⟨w0, w1, w2, w3, w4, w5, rfl⟩ := sixW h1
  have t0 := parts w0 (by simp)
  have t1 := parts w1 (by simp)
  have t2 := parts w2 (by simp)
  have t3 := parts w3 (by simp)
  have t4 := parts w4 (by simp)
  have t5 := parts w5 (by simp)
  have eo : segOk [w0, w1, w2, w3, w4, w5] = (decide (w0 = ("wall" : Str)) && ((numL w2.cps.toList && (numL w3.cps.toList && (numL w4.cps.toList && (numL w5.cps.toList && true)))) && segB (segWl [w0, w1, w2, w3, w4, w5]).D)) := by
    unfold segOk
    rfl
  unfold segD at q
  rw [eo] at q
  refine ⟨shs t0.ok, o0 _ (by decide +kernel), ?_⟩
  rw [eqs]
  refine iteB_i (fun h2 => ?_) (fun h2 => ?_)
  · have h2 : decide (w0 = ("wall" : Str)) = false := by simpa using h2
    rw [h2, Bool.false_and, if_neg (by decide)] at q
    exact q
  have h2 : decide (w0 = ("wall" : Str)) = true := by simpa using h2
  rw [h2, Bool.true_and] at q
  have cut : ∀ i : Int, i = 2 → cutD ([w0, w1, w2, w3, w4, w5].map .str) (some i) none = [.str w2, .str w3, .str w4, .str w5] := fun i h => by subst h; rfl
  have l4 : ∀ i : Int, i = 2 → (cutD ([w0, w1, w2, w3, w4, w5].map .str) (some i) none).length ≤ 100000 := fun i h => by rw [cut i h]; show 4 ≤ 100000; decide
  have mem : ∀ i : Int, i = 2 → ∀ x ∈ cutD ([w0, w1, w2, w3, w4, w5].map .str) (some i) none, ∃ w : Str, x = .str w ∧ Tx 200 12 w := fun i h x hx => by
    rw [cut i h] at hx
    simp only [List.mem_cons, List.not_mem_nil, or_false] at hx
    rcases hx with rfl | rfl | rfl | rfl
    · exact ⟨_, rfl, t2⟩
    · exact ⟨_, rfl, t3⟩
    · exact ⟨_, rfl, t4⟩
    · exact ⟨_, rfl, t5⟩
  refine ⟨l4 _ rfl, comp_map nvD _ [] (fun x hx k hk => ?_) ?_⟩
  · obtain ⟨w, rfl, hw⟩ := mem _ rfl x hx
    exact ⟨w, rfl, hw, hk⟩
  rw [List.nil_append, cut _ rfl]
  refine ⟨rfl, ?_, ?_⟩
  · show ([numV w2, numV w3, numV w4, numV w5].all flatD) = true
    simp only [List.all_cons, List.all_nil, nv_flat, Bool.and_true]
  have ea : ([numV w2, numV w3, numV w4, numV w5].any fun z => PyData.eqv z .none) = !(numL w2.cps.toList && (numL w3.cps.toList && (numL w4.cps.toList && (numL w5.cps.toList && true)))) := by
    simp only [List.any_cons, List.any_nil, nv_none, Bool.not_and, Bool.not_true]
  show iteB ([numV w2, numV w3, numV w4, numV w5].any fun z => PyData.eqv z .none) _ _
  rw [ea]
  refine iteB_i (fun h3 => ?_) (fun h3 => ?_)
  · have h3 : (numL w2.cps.toList && (numL w3.cps.toList && (numL w4.cps.toList && (numL w5.cps.toList && true)))) = false := nb_t h3
    rw [h3, Bool.false_and, if_neg (by decide)] at q
    exact q
  have h3 : (numL w2.cps.toList && (numL w3.cps.toList && (numL w4.cps.toList && (numL w5.cps.toList && true)))) = true := nb_f h3
  rw [h3, Bool.true_and] at q
  simp only [Bool.and_eq_true, Bool.and_true] at h3
  obtain ⟨n2, n3, n4, n5⟩ := h3
  have f := wall_fit t1 (val_lt (num_bare n2) t2.run) (val_lt (num_bare n3) t3.run) (val_lt (num_bare n4) t4.run) (val_lt (num_bare n5) t5.run)
  have em : [PyData.str w2, .str w3, .str w4, .str w5].map nvD = [.int (valL w2.cps.toList), .int (valL w3.cps.toList), .int (valL w4.cps.toList), .int (valL w5.cps.toList)] := by
    show [numV w2, numV w3, numV w4, numV w5] = _
    rw [nv_val n2, nv_val n3, nv_val n4, nv_val n5]
  rw [em]
  refine ⟨(by show 2 ≤ 1000; decide), (by show 2 ≤ 1000; decide), (by show 3 ≤ 1000; decide), f.mono (by decide) (by decide), ?_⟩
  refine iteB_i (fun h4 => ?_) (fun h4 => ?_)
  · have h4 : segB (segWl [w0, w1, w2, w3, w4, w5]).D = true := h4
    rw [if_pos h4] at q
    exact q
  · have h4 : segB (segWl [w0, w1, w2, w3, w4, w5]).D = false := h4
    rw [h4, if_neg (by decide)] at q
    exact q
/-! ### _law_read -/
abbrev s__law_read : Stmt := topS 41
theorem sc__law_read : FnScope ["text", "found", "at", "line", "wall"] ["text"] (defScope s__law_read) := ⟨rfl, rfl, rfl, by decide +kernel, rfl, by decide +kernel, by decide +kernel⟩
def m__law_read : Md := fun ds Q _ => ∃ z : Str, ds = [.str z] ∧ Tx 200 12 z ∧ onRead (readT z) (fun wl => Q (.tuple [.str ("plan" : Str), .tuple (wl.map Wl.D)])) fun k => Q (.tuple [.str ("wrong" : Str), .int (k : Nat)])
theorem fk__law_read {P : Program} {w : World} {K : PySem.W.Frag} {mg : Str → Option Value} {base : Heap} {cl : Str → Addr} (S : At K mg "_law_read" s__law_read) (T : Blt mg) (G__law_is_plan : Fk P w K mg base CX0 5 "_law_is_plan" ["thing"] (spD false cl m__law_is_plan)) (G__law_read_segment : Fk P w K mg base CX0 4 "_law_read_segment" ["line"] (spD false cl m__law_read_segment)) :
    Fk P w K mg base CX0 6 "_law_read" ["text"] (spD false cl m__law_read) := by
  refine fk_mk0 (n := 1) S sc__law_read (fun f fd F => F.binds fun _ _ _ _ _ _ us hl => (match us, hl with | [_], _ => rfl)) (fun ds Q E h => by
    obtain ⟨_, rfl, _⟩ := h
    rfl) rfl fun fa cdv A outer s H E hr => ⟨_, (pss_cons (ps_set (i := 1) sc__law_read.nd rfl (.inl rfl) (pe_tup pa_nil))
      (Evl.pss_cut (ps_for PassesOwn.never rfl (qi_enum (K := K) rfl (by rfl) T.enum (pa_cons (pe_ifExp (pt_cmpR (qo_ne (K := K) rfl hr.units) (pv 0) pe_str (nomark _)) (qe_split (pv 0) pe_str) (pe_lst pa_nil)) pa_nil)) (qg_tup (K := K) (n := 2) rfl rfl (pgs_cons (pg_name (i := 2) sc__law_read.nd rfl (.inl rfl)) (pgs_cons (pg_name (i := 3) sc__law_read.nd rfl (.inl rfl)) pgs_nil))) (pss_cons (ps_set (i := 4) sc__law_read.nd rfl (.inl rfl) (pe_cl G__law_read_segment (hr.mono (by decide : 4 ≤ 5)) (by rfl) pass0 (pa_cons (pv 3) pa_nil)))
      (pss_cons (ps_if (PW.pt (pw_or (pt_cmpR op_isN (pv 4) pe_non (nomark _)) (pw_or1 (pt_not (pt_val (pe_cl G__law_is_plan (hr.mono (by decide : 5 ≤ 5)) (by rfl) pass0 (pa_cons (qe_add (K := K) rfl (pv 1) (pe_tup (pa_cons (pv 4) pa_nil))) pa_nil))))))) (pss_one (ps_ret (pe_tup (pa_cons pe_str (pa_cons (qe_add (K := K) rfl (pv 2) pe_int) pa_nil))))) pss_nil)
      (pss_one (ps_set (i := 1) sc__law_read.nd rfl (.inl rfl) (qe_add (K := K) rfl (pv 1) (pe_tup (pa_cons (pv 4) pa_nil))))))))
      (pss_one (ps_ret (pe_tup (pa_cons pe_str (pa_cons (pv 1) pa_nil))))))), fun f hcl => ⟨_, (ss_seq (ss_asg (se_tup sa_nil) sg_name)
      (ss_cut (ss_loop (si_enum (sa_cons (se_if (st_test (se_op s2_ne se_var se_str)) (se_split se_var se_str) (se_lst sa_nil)) sa_nil)) (sg_tup (sgs_cons sg_name (sgs_cons sg_name sgs_nil))) (ss_seq (ss_asg (se_callF hcl (sa_cons se_var sa_nil)) sg_name)
      (ss_seq (ss_if (st_or (st_test (se_op s2_isN se_var se_non)) (st_not (st_b (se_callF hcl (sa_cons (se_op s2_add se_var (se_tup (sa_cons se_var sa_nil))) sa_nil))))) (ss_ret (se_tup (sa_cons se_str (sa_cons (se_op s2_add se_var se_int) sa_nil)))) ss_next)
      (ss_asg (se_op s2_add se_var (se_tup (sa_cons se_var sa_nil))) sg_name))))
      (ss_ret (se_tup (sa_cons se_str (sa_cons se_var sa_nil)))))), fun ds Qd h => ?_⟩⟩
  obtain ⟨z, rfl, hz, q⟩ := h
  have o0 : ∀ z : Str, (z.cps.toList.all fun c => decide (c < 1000)) = true → SeqAt.shaped (.str z) = true := fun z h => shs (okc_lit h)
  have hzl := hz.len
  unfold readT at q
  refine ⟨(by show 0 ≤ 1000; decide), fun ρ => ∃ (wl : List Wl) (s t u : Sl), ρ = [.d (.str z), .d (.tuple (wl.map Wl.D)), s, t, u] ∧ Qd (.tuple [.str ("plan" : Str), .tuple (wl.map Wl.D)]), ⟨shs hz.ok, o0 _ (by decide +kernel), ?_⟩, ?_⟩
  · rw [eqs]
    refine iteB_i (fun h1 => ?_) (fun h1 => ?_)
    · have h1 := of_decide_eq_false (nb_t h1)
      rw [if_neg h1] at q
      have parts : ∀ w ∈ Txt.split z ("\n" : Str), Tx 200 12 w := fun w hw => by
        rw [nl_is] at hw
        exact hz.word hw
      have lf : left (Txt.split z ("\n" : Str)) ≤ 201 := by
        rw [nl_is, left_split]
        omega
      refine ⟨by decide +kernel, Nat.le_trans hz.len (by decide), ?_⟩
      generalize Txt.split z ("\n" : Str) = ls at parts lf q
      refine loop_ind (fun r ρ => ∃ (k : Nat) (ls : List Str) (found : List Wl) (s t u : Sl), r = enumD k (ls.map .str) ∧ (∀ l ∈ ls, Tx 200 12 l) ∧ (∀ v ∈ found, WOk v) ∧ (∃ b, SzA b 2 (found.map Wl.D) ∧ b + 12 * left ls ≤ 2412) ∧ planB (.tuple (found.map Wl.D)) = true ∧ found.length + left ls ≤ 201 ∧ ρ = [.d (.str z), .d (.tuple (found.map Wl.D)), s, t, u] ∧ onRead (readL found (k + 1) ls) (fun wl => Qd (.tuple [.str ("plan" : Str), .tuple (wl.map Wl.D)])) fun k => Qd (.tuple [.str ("wrong" : Str), .int (k : Nat)])) (fun ρ h => ?_) (fun x r ρ h N hN => ?_) _ ⟨0, ls, [], .any, .any, .any, rfl, parts, fun v hv => absurd hv List.not_mem_nil, ⟨0, sza_nil, by omega⟩, pln_nil.plan, by rw [List.length_nil]; omega, rfl, q⟩
      · obtain ⟨k, ls, found, s, t, u, e, _, _, _, _, _, rfl, q⟩ := h
        have e0 : ls = [] := by
          have := enum_none e
          cases ls with
          | nil => rfl
          | cons _ _ => cases this
        subst e0
        exact ⟨found, s, t, u, rfl, q⟩
      · obtain ⟨k, ls, found, s, t, u, e, hls, hf, ⟨b, hb, hbl⟩, hpl, hn, rfl, q⟩ := h
        obtain ⟨y, ys, ey, rfl, rfl⟩ := enum_at e
        cases ls with
        | nil => cases ey
        | cons l ls =>
          rw [List.map_cons] at ey
          obtain ⟨ey1, ey2⟩ := List.cons.inj ey
          subst ey1
          subst ey2
          have tl := hls l List.mem_cons_self
          have wp : ∀ w ∈ Txt.split l (" " : Str), Tx 200 12 w := fun w hw => by
            rw [sp_is] at hw
            exact tl.word hw
          have lc : left (l :: ls) = l.length + 1 + left ls := by
            unfold left
            rw [List.map_cons, List.sum_cons]
          rw [lc] at hn hbl
          unfold readL lineOk at q
          have nm := @seg_name l
          refine ⟨rfl, l, rfl, tl, ?_⟩
          generalize Txt.split l (" " : Str) = ws at wp q nm
          cases hs : segOk ws with
          | false =>
            have e1 : segD ws = .none := by
              unfold segD
              rw [hs, if_neg (by decide)]
            rw [e1]
            rw [hs, Bool.false_and, if_neg (by decide)] at q
            exact ⟨(by show 2 ≤ 1000; decide), q⟩
          | true =>
            rw [segD_wall hs]
            rw [hs, Bool.true_and] at q
            have wk := seg_ok hs wp
            have nl := nm hs
            have em : found.map Wl.D ++ [(segWl ws).D] = (found ++ [segWl ws]).map Wl.D := by
              rw [List.map_append]
              rfl
            have sz : SzA (b + (segWl ws).n.length + 10) 2 ((found ++ [segWl ws]).map Wl.D) := by
              rw [← em]
              exact (sza_app hb (sza_one wk.sz2)).mono (by omega) (Nat.le_refl _)
            have lenc : (found.map Wl.D).length + [(segWl ws).D].length ≤ 100000 := by
              rw [List.length_map]
              show found.length + 1 ≤ 100000
              omega
            refine ⟨(by show 1 ≤ 1000; decide), lenc, ?_⟩
            rw [em]
            refine ⟨sz.tuple.mono (by omega) (by decide), ?_⟩
            rw [plan_snoc hpl wk.seg]
            cases hfit : fitsB found (segWl ws) with
            | false =>
              rw [hfit, if_neg (by decide)] at q
              exact ⟨(by show 2 ≤ 1000; decide), q⟩
            | true =>
              rw [hfit, if_pos rfl] at q
              refine ⟨(by show 1 ≤ 1000; decide), lenc, ?_⟩
              rw [em]
              refine hN _ ⟨k + 1, ls, found ++ [segWl ws], .d (.int (k : Nat)), .d (.str l), .d (segWl ws).D, rfl, fun x hx => hls x (List.mem_cons_of_mem _ hx), fun v hv => ?_, ⟨_, sz, by omega⟩, ?_, ?_, rfl, q⟩
              · rcases List.mem_append.mp hv with hv | hv
                · exact hf v hv
                · rw [List.mem_singleton.mp hv]
                  exact wk
              · rw [plan_snoc hpl wk.seg, hfit]
              · rw [List.length_append]
                show found.length + 1 + left ls ≤ 201
                omega
    · have h1 := of_decide_eq_true (nb_f h1)
      rw [if_pos h1] at q
      exact ⟨(by show 0 ≤ 1000; decide), [], _, _, _, rfl, q⟩
  · rintro ρ ⟨wl, s, t, u, rfl, q⟩
    exact ⟨(by show 2 ≤ 1000; decide), q⟩
end Ey
namespace Ey
open PySem PySem.Spec PyProof.Rows L2
/-! ### _law_told -/
abbrev s__law_told : Stmt := topS 44
theorem sc__law_told : FnScope ["text", "way", "e"] ["text", "way"] (defScope s__law_told) := ⟨rfl, rfl, rfl, by decide +kernel, rfl, by decide +kernel, by decide +kernel⟩
def m__law_told : Md := fun ds Q _ => ∃ (x : PyData) (way : Int), ds = [x, .int way] ∧ ((isStr x = false ∧ Q (.tuple [.str ("wrong" : Str), .int 0])) ∨ ∃ z, x = .str z ∧ Tx 200 12 z ∧ onRead (readT z) (fun wl => Q (.tuple [.str ("plan" : Str), .tuple (wl.map Wl.D)])) fun k => Q (.tuple [.str ("wrong" : Str), .int (k : Nat)]))
theorem fk__law_told {P : Program} {w : World} {K : PySem.W.Frag} {mg : Str → Option Value} {base : Heap} {cl : Str → Addr} (S : At K mg "_law_told" s__law_told) (T : Blt mg) {C_BadText B_BadText I_BadText : Addr} (X_BadText : ErrTxt P K mg "BadText" "line" C_BadText B_BadText I_BadText) (hC_BadText : cl "BadText" = C_BadText) (G_read_plan : Fk P w K mg base (L2.CX P w) 5 "read_plan" ["text"] (spD false cl m_read_plan)) (S_read_plan : At K mg "read_plan" s_read_plan) (kw_read_plan_0 : KwOf K "read_plan" s_read_plan ["text"] ["text"] [0]) (D_BadText : L2.ExcC K C_BadText) (te_BadText : PySem.W.exmOne K (.ref C_BadText) (.ref C_BadText) = some true) (ki_BadText : PySem.W.kitOne K (.ref C_BadText) (.ref B_BadText) = some true) (gB_BadText : mg "EyeError" = some (.ref B_BadText)) :
    Fk P w K mg base CX0 6 "_law_told" ["text", "way"] (spD false cl m__law_told) := by
  refine fk_mk0 (n := 2) S sc__law_told (fun f fd F => F.binds fun _ _ _ _ _ _ us hl => (match us, hl with | [_, _], _ => rfl)) (fun ds Q E h => by
    obtain ⟨_, _, rfl, _⟩ := h
    rfl) rfl fun fa cdv A outer s H E hr => ⟨_, (pss_one (ps_try_as (i := 2) (tb := (fun W => tRet (tTup (tCons (tC (.str "plan")) (tCons (tIf (tTest (tOp (rEqD K) (tVar 1) (tC (.int 0)))) (tCallS (spD false cl m_read_plan) (WE W) (tCons (tVar 0) tNil)) (tCallKwS 1 [0] (spD false cl m_read_plan) (WE W) (tCons (tVar 0) tNil))) tNil))))) (Wout := fun _ _ _ _ => False) (ts := told2Ts K C_BadText B_BadText "line" "wrong" "other" 2) rfl rfl sc__law_told.nd rfl rfl ⟨rfl, by decide, Or.inl X_BadText.gC⟩ takes0 (fun W pn xe tk _ => pss_one (ps_ret (pe_tup (pa_cons pe_str (pa_cons (pe_ifExp (pt_cmpR (qo_eq (K := K) rfl hr.units) (pv 1) pe_int (nomark _)) (pe_clS G_read_plan (hr.mono (by decide : 5 ≤ 5)) (by rfl) (fun σ => passAt tk σ) (pa_cons (pv 0) pa_nil)) (pe_clkS G_read_plan S_read_plan kw_read_plan_0 (by decide) (hr.mono (by decide : 5 ≤ 5)) (by rfl) (fun σ => passAt tk σ) (pk_cons (pv 0) pk_nil))) pa_nil))))) (fun a oe cls d pn hz hf => pss_one (ps_ret (pe_ifExp (pt_val (pe_callB (call_isEr D_BadText hz hf) (by rfl) T.isinst (by decide +kernel) (pa_cons (pv 2) (pa_cons (pe_glob (by rfl) gB_BadText rfl) pa_nil)))) (pe_tup (pa_cons pe_str (pa_cons (pe_byEr X_BadText hz hf (pv 2)) pa_nil))) (pe_tup (pa_cons pe_str (pa_cons pe_non pa_nil)))))))), fun f hcl => ⟨_, (ss_tryTold2 (f := f) (tb := (fun W => tRet (tTup (tCons (tC (.str "plan")) (tCons (tIf (tTest (tOp (rEqD K) (tVar 1) (tC (.int 0)))) (tCallS (spD false cl m_read_plan) (WE W) (tCons (tVar 0) tNil)) (tCallKwS 1 [0] (spD false cl m_read_plan) (WE W) (tCons (tVar 0) tNil))) tNil))))) (i := 2) (s := "wrong") (s2 := "other") (c := "BadText") (fld := "line") (by rw [hcl]; exact hC_BadText) (by decide) te_BadText ki_BadText (fun W g Ed hEd hgcl hE => (fun (hcl : g.cl = cl) => ss_ret (se_tup (sa_cons se_str (sa_cons (se_if (st_test (se_op s2_eq se_var se_int)) (se_callS (i := 2) hEd hE hcl (sa_cons se_var sa_nil)) (se_callKwS (i := 2) hEd hE hcl (sa_cons se_var sa_nil))) sa_nil)))) (hgcl.trans hcl))), fun ds Qd h => ?_⟩⟩
  obtain ⟨x, way, rfl, h⟩ := h
  rcases h with ⟨h1, q⟩ | ⟨z, rfl, hz, q⟩
  · exact ⟨rfl, rfl, iteB_i (fun _ => ⟨(by show 2 < 3; decide), x, rfl, .inl ⟨h1, rfl, q⟩⟩) (fun _ => ⟨(by show 2 < 3; decide), rfl, x, rfl, .inl ⟨h1, rfl, q⟩⟩)⟩
  · refine ⟨rfl, rfl, iteB_i (fun _ => ⟨(by show 2 < 3; decide), _, rfl, .inr ⟨z, rfl, hz, ?_⟩⟩) (fun _ => ⟨(by show 2 < 3; decide), rfl, _, rfl, .inr ⟨z, rfl, hz, ?_⟩⟩)⟩
    · revert q
      generalize readT z = r
      cases r with
      | inl k => exact fun q => ⟨rfl, q⟩
      | inr wl => exact fun q => ⟨(by show 2 ≤ 1000; decide), q⟩
    · revert q
      generalize readT z = r
      cases r with
      | inl k => exact fun q => ⟨rfl, q⟩
      | inr wl => exact fun q => ⟨(by show 2 ≤ 1000; decide), q⟩
/-! ### _law_is_wide -/
abbrev s__law_is_wide : Stmt := topS 46
theorem sc__law_is_wide : FnScope ["text", "line", "wall", "x"] ["text"] (defScope s__law_is_wide) := ⟨rfl, rfl, rfl, by decide +kernel, rfl, by decide +kernel, by decide +kernel⟩
def m__law_is_wide : Md := fun ds Q _ => ∃ z : Str, ds = [.str z] ∧ Tx 200 12 z ∧ ∀ b, Q (.bool b)
theorem fk__law_is_wide {P : Program} {w : World} {K : PySem.W.Frag} {mg : Str → Option Value} {base : Heap} {cl : Str → Addr} (S : At K mg "_law_is_wide" s__law_is_wide) (T : Blt mg) (G__law_read_segment : Fk P w K mg base CX0 4 "_law_read_segment" ["line"] (spD false cl m__law_read_segment)) :
    Fk P w K mg base CX0 5 "_law_is_wide" ["text"] (spD false cl m__law_is_wide) := by
  refine fk_mk0 (n := 1) S sc__law_is_wide (fun f fd F => F.binds fun _ _ _ _ _ _ us hl => (match us, hl with | [_], _ => rfl)) (fun ds Q E h => by
    obtain ⟨_, rfl, _⟩ := h
    rfl) rfl fun fa cdv A outer s H E hr => ⟨_, (Evl.pss_cut (ps_for PassesOwn.never rfl (pi_any (K := K) rfl (qe_split (pv 0) pe_str)) (pg_name (i := 1) sc__law_is_wide.nd rfl (.inl rfl)) (pss_cons (ps_set (i := 2) sc__law_is_wide.nd rfl (.inl rfl) (pe_cl G__law_read_segment (hr.mono (by decide : 4 ≤ 4)) (by rfl) pass0 (pa_cons (pv 1) pa_nil)))
      (pss_one (ps_if (PW.pt (pw_and (pt_cmpR op_notN (pv 2) pe_non (nomark _)) (pw_and1 (pt_cmpR op_gt (pe_callB (qc_maxL (K := K) rfl rfl) (by rfl) T.max (by decide +kernel) (pa_cons (pe_lc (own := [("x", 3)]) rfl sc__law_is_wide.nd (pi_any (K := K) rfl (qe_add (K := K) rfl (qe_ix (K := K) rfl (pv 2) pe_int) (qe_ix (K := K) rfl (pv 2) pe_int))) (blkOk_by (own := [("x", 3)]) (N := ["text", "line", "wall", "x"]) (sc := defScope s__law_is_wide) (by decide +kernel)) (fun _ _ _ _ _ => (pg_name (i := 3) sc__law_is_wide.nd rfl (Or.inl rfl))) (fun _ _ _ _ _ => pts_nil) (fun _ _ _ _ _ => (pe_callB cr_abs (by rfl) T.abs (by decide +kernel) (pa_cons (pv 3) pa_nil)))) pa_nil)) pe_int (nomark _))))) (pss_one (ps_ret pe_bl)) pss_nil))))
      (pss_one (ps_ret (pe_cmpR op_gt (pe_callB (qc_len (K := K) rfl) (by rfl) T.len (by decide +kernel) (pa_cons (qe_split (pv 0) pe_str) pa_nil)) pe_int (nomark _))))), fun f hcl => ⟨_, (ss_cut (ss_loop (si_any (se_split se_var se_str)) sg_name (ss_seq (ss_asg (se_callF hcl (sa_cons se_var sa_nil)) sg_name)
      (ss_if (st_and (st_test (se_op s2_notN se_var se_non)) (st_test (se_op s2_gt (se_cb sn_maxL (sa_cons (se_own (seo_lc (si_any (se_op s2_add (se_op s2_ix se_var se_int) (se_op s2_ix se_var se_int))) sg_name (by decide) st_yes (se_cb sn_abs (sa_cons se_var sa_nil)))) sa_nil)) se_int))) (ss_ret se_bl) ss_next)))
      (ss_ret (se_op s2_gt (se_cb sn_len (sa_cons (se_split se_var se_str) sa_nil)) se_int))), fun ds Qd h => ?_⟩⟩
  obtain ⟨z, rfl, hz, q⟩ := h
  have parts : ∀ w ∈ Txt.split z ("\n" : Str), Tx 200 12 w := fun w hw => by
    rw [nl_is] at hw
    exact hz.word hw
  have zl : z.length ≤ 1000000 := Nat.le_trans hz.len (by decide)
  refine ⟨fun ρ => ∃ s t u : Sl, ρ = [.d (.str z), s, t, u], ⟨by decide +kernel, zl, ?_⟩, ?_⟩
  · generalize Txt.split z ("\n" : Str) = ls at parts
    refine loop_ind (fun r ρ => ∃ (ls : List Str) (s t u : Sl), r = ls.map .str ∧ (∀ l ∈ ls, Tx 200 12 l) ∧ ρ = [.d (.str z), s, t, u]) (fun ρ h => ?_) (fun x r ρ h N hN => ?_) _ ⟨ls, .any, .any, .any, rfl, parts, rfl⟩
    · obtain ⟨_, s, t, u, _, _, rfl⟩ := h
      exact ⟨s, t, u, rfl⟩
    · obtain ⟨ls, s, t, u, e, hls, rfl⟩ := h
      cases ls with
      | nil => cases e
      | cons l ls =>
        rw [List.map_cons] at e
        obtain ⟨e1, e2⟩ := List.cons.inj e
        subst e1
        subst e2
        have tl := hls l List.mem_cons_self
        refine ⟨l, rfl, tl, ?_⟩
        have stay : ∀ s2 s3 : Sl, N [.d (.str z), .d (.str l), s2, s3] := fun s2 s3 => hN _ ⟨ls, _, _, _, rfl, fun x hx => hls x (List.mem_cons_of_mem _ hx), rfl⟩
        cases hs : segOk (Txt.split l (" " : Str)) with
        | false =>
          have e1 : segD (Txt.split l (" " : Str)) = .none := by
            unfold segD
            rw [hs, if_neg (by decide)]
          rw [e1]
          exact stay _ _
        | true =>
          rw [segD_wall hs]
          generalize segWl (Txt.split l (" " : Str)) = w
          refine ⟨(by show 2 + 2 ≤ 100000; decide), (by show 4 ≤ 100000; decide), [absI w.a, absI w.b, absI w.c, absI w.d], rfl, (by show 0 < 4; decide), fun m _ _ => iteB_i (fun _ => q true) (fun _ => stay _ _)⟩
  · rintro ρ ⟨s, t, u, rfl⟩
    exact ⟨by decide +kernel, zl, q _⟩
end Ey
namespace Ey
open PySem PySem.Spec PyProof.Rows L2
/-! ### _law_bent_lines -/
abbrev s__law_bent_lines : Stmt := topS 45
theorem sc__law_bent_lines : FnScope ["deck", "lines", "way", "at", "line", "some", "to", "k", "it", "parts", "word"] ["deck", "lines"] (defScope s__law_bent_lines) := ⟨rfl, rfl, rfl, by decide +kernel, rfl, by decide +kernel, by decide +kernel⟩
def m__law_bent_lines : Md := fun ds Q _ => ∃ (ls : List Str) (B R : Nat), ds = [.list (ls.map .str)] ∧ 0 < ls.length ∧ ls.length ≤ 1000 ∧ B ≤ 10000 ∧ 1 ≤ R ∧ (∀ l ∈ ls, Tx B R l) ∧ ∀ ks : List Str, ks.length ≤ 2 * ls.length + 1 → (∀ k ∈ ks, Tx (3 * B + 40) (2 * R + 1) k) → Q (.list (ks.map .str))
theorem fk__law_bent_lines {P : Program} {w : World} {K : PySem.W.Frag} {mg : Str → Option Value} {base : Heap} {cl : Str → Addr} (S : At K mg "_law_bent_lines" s__law_bent_lines) (T : Blt mg) (G__law_draw : Fk P w K mg base CX0 1 "_law_draw" ["deck", "many"] (spD true cl m__law_draw)) (G__law_pick : Fk P w K mg base CX0 2 "_law_pick" ["deck", "some"] (spD true cl m__law_pick)) :
    Fk P w K mg base CX0 3 "_law_bent_lines" ["deck", "lines"] (spD true cl m__law_bent_lines) := by
  refine fk_mk0 (n := 1) S sc__law_bent_lines (fun f fd F => F.binds fun _ _ _ _ _ _ us hl => (match us, hl with | [_, _], _ => rfl)) (fun ds Q E h => by
    obtain ⟨_, _, _, rfl, _⟩ := h
    rfl) rfl fun fa cdv A outer s H E hr => ⟨_, (pss_cons (ps_asg (pe_tup (pa_cons (pe_cl G__law_draw (hr.mono (by decide : 1 ≤ 2)) (by rfl) pass0 (pa_cons (pv 0) (pa_cons pe_int pa_nil))) (pa_cons (pe_cl G__law_draw (hr.mono (by decide : 1 ≤ 2)) (by rfl) pass0 (pa_cons (pv 0) (pa_cons (pe_callB (qc_len (K := K) rfl) (by rfl) T.len (by decide +kernel) (pa_cons (pv 1) pa_nil)) pa_nil))) pa_nil))) (qg_tup (K := K) (n := 2) rfl rfl (pgs_cons (pg_name (i := 2) sc__law_bent_lines.nd rfl (.inl rfl)) (pgs_cons (pg_name (i := 3) sc__law_bent_lines.nd rfl (.inr rfl)) pgs_nil))))
      (pss_cons (ps_set (i := 4) sc__law_bent_lines.nd rfl (.inr rfl) (qe_ix (K := K) rfl (pv 1) (pv 3)))
      (pss_cons (ps_if (pt_cmpR (qo_eq (K := K) rfl hr.units) (pv 2) pe_int (nomark _)) (pss_one (ps_ret (qe_add (K := K) rfl (qe_slW (K := K) rfl (pv 1) po_none (po_some (pv 3))) (qe_slW (K := K) rfl (pv 1) (po_some (qe_add (K := K) rfl (pv 3) pe_int)) po_none)))) pss_nil)
      (pss_cons (ps_if (pt_cmpR (qo_eq (K := K) rfl hr.units) (pv 2) pe_int (nomark _)) (pss_one (ps_ret (qe_add (K := K) rfl (qe_add (K := K) rfl (qe_slW (K := K) rfl (pv 1) po_none (po_some (pv 3))) (pe_lst (pa_cons (pv 4) pa_nil))) (qe_slW (K := K) rfl (pv 1) (po_some (pv 3)) po_none)))) pss_nil)
      (pss_cons (ps_if (pt_cmpR (qo_eq (K := K) rfl hr.units) (pv 2) pe_int (nomark _)) (pss_cons (ps_set (i := 5) sc__law_bent_lines.nd rfl (.inl rfl) (pe_lst (pa_cons pe_str (pa_cons pe_str (pa_cons pe_str (pa_cons pe_str (pa_cons pe_str (pa_cons pe_str (pa_cons pe_str (pa_cons pe_str pa_nil))))))))))
      (pss_one (ps_ret (qe_add (K := K) rfl (qe_add (K := K) rfl (qe_slW (K := K) rfl (pv 1) po_none (po_some (pv 3))) (pe_lst (pa_cons (pe_cl G__law_pick (hr.mono (by decide : 2 ≤ 2)) (by rfl) pass0 (pa_cons (pv 0) (pa_cons (pv 5) pa_nil))) pa_nil))) (qe_slW (K := K) rfl (pv 1) (po_some (pv 3)) po_none))))) pss_nil)
      (pss_cons (ps_if (pt_cmpR (qo_eq (K := K) rfl hr.units) (pv 2) pe_int (nomark _)) (pss_cons (ps_set (i := 6) sc__law_bent_lines.nd rfl (.inr rfl) (pe_cl G__law_draw (hr.mono (by decide : 1 ≤ 2)) (by rfl) pass0 (pa_cons (pv 0) (pa_cons (pe_callB (qc_len (K := K) rfl) (by rfl) T.len (by decide +kernel) (pa_cons (pv 1) pa_nil)) pa_nil))))
      (pss_one (ps_ret (pe_lc (own := [("k", 7), ("it", 8)]) rfl sc__law_bent_lines.nd (qi_enum (K := K) rfl (by rfl) T.enum (pa_cons (pv 1) pa_nil)) (blkOk_by (own := [("k", 7), ("it", 8)]) (N := ["deck", "lines", "way", "at", "line", "some", "to", "k", "it", "parts", "word"]) (sc := defScope s__law_bent_lines) (by decide +kernel)) (fun _ _ _ _ _ => (qg_tup (K := K) (n := 2) rfl rfl (pgs_cons (pg_name (i := 7) sc__law_bent_lines.nd rfl (Or.inl rfl)) (pgs_cons (pg_name (i := 8) sc__law_bent_lines.nd rfl (Or.inl rfl)) pgs_nil)))) (fun _ _ _ _ _ => pts_nil) (fun _ _ _ _ _ => (pe_ifExp (pt_cmpR (qo_eq (K := K) rfl hr.units) (pv 7) (pv 3) (nomark _)) (qe_ix (K := K) rfl (pv 1) (pv 6)) (pe_ifExp (pt_cmpR (qo_eq (K := K) rfl hr.units) (pv 7) (pv 6) (nomark _)) (pv 4) (pv 8)))))))) pss_nil)
      (pss_cons (ps_set (i := 9) sc__law_bent_lines.nd rfl (.inl rfl) (qe_split (pv 4) pe_str))
      (pss_cons (ps_set (i := 7) sc__law_bent_lines.nd rfl (.inl rfl) (pe_cl G__law_draw (hr.mono (by decide : 1 ≤ 2)) (by rfl) pass0 (pa_cons (pv 0) (pa_cons (pe_callB (qc_len (K := K) rfl) (by rfl) T.len (by decide +kernel) (pa_cons (pv 9) pa_nil)) pa_nil))))
      (pss_cons (ps_if (pt_cmpR (qo_eq (K := K) rfl hr.units) (pv 2) pe_int (nomark _)) (pss_cons (ps_set (i := 10) sc__law_bent_lines.nd rfl (.inl rfl) (pe_cl G__law_pick (hr.mono (by decide : 2 ≤ 2)) (by rfl) pass0 (pa_cons (pv 0) (pa_cons (pe_lst (pa_cons pe_str (pa_cons pe_str (pa_cons pe_str (pa_cons pe_str (pa_cons pe_str (pa_cons pe_str (pa_cons pe_str (pa_cons pe_str (pa_cons pe_str (pa_cons pe_str (pa_cons pe_str (pa_cons pe_str (pa_cons pe_str (pa_cons pe_str (pa_cons pe_str pa_nil)))))))))))))))) pa_nil))))
      (pss_one (ps_ret (qe_add (K := K) rfl (qe_add (K := K) rfl (qe_slW (K := K) rfl (pv 1) po_none (po_some (pv 3))) (pe_lst (pa_cons (qe_join (K := K) rfl pe_str (qe_add (K := K) rfl (qe_add (K := K) rfl (qe_slW (K := K) rfl (pv 9) po_none (po_some (pv 7))) (pe_lst (pa_cons (pv 10) pa_nil))) (qe_slW (K := K) rfl (pv 9) (po_some (qe_add (K := K) rfl (pv 7) pe_int)) po_none))) pa_nil))) (qe_slW (K := K) rfl (pv 1) (po_some (qe_add (K := K) rfl (pv 3) pe_int)) po_none))))) pss_nil)
      (pss_cons (ps_if (pt_cmpR (qo_eq (K := K) rfl hr.units) (pv 2) pe_int (nomark _)) (pss_one (ps_ret (qe_add (K := K) rfl (qe_add (K := K) rfl (qe_slW (K := K) rfl (pv 1) po_none (po_some (pv 3))) (pe_lst (pa_cons (qe_join (K := K) rfl pe_str (qe_add (K := K) rfl (qe_slW (K := K) rfl (pv 9) po_none (po_some (pv 7))) (qe_slW (K := K) rfl (pv 9) (po_some (qe_add (K := K) rfl (pv 7) pe_int)) po_none))) pa_nil))) (qe_slW (K := K) rfl (pv 1) (po_some (qe_add (K := K) rfl (pv 3) pe_int)) po_none)))) pss_nil)
      (pss_cons (ps_if (pt_cmpR (qo_eq (K := K) rfl hr.units) (pv 2) pe_int (nomark _)) (pss_one (ps_ret (qe_add (K := K) rfl (qe_add (K := K) rfl (qe_slW (K := K) rfl (pv 1) po_none (po_some (pv 3))) (pe_lst (pa_cons (qe_join (K := K) rfl pe_str (qe_add (K := K) rfl (qe_add (K := K) rfl (qe_slW (K := K) rfl (pv 9) po_none (po_some (pv 7))) (qe_slW (K := K) rfl (pv 9) (po_some (pv 7)) (po_some (qe_add (K := K) rfl (pv 7) pe_int)))) (qe_slW (K := K) rfl (pv 9) (po_some (pv 7)) po_none))) pa_nil))) (qe_slW (K := K) rfl (pv 1) (po_some (qe_add (K := K) rfl (pv 3) pe_int)) po_none)))) pss_nil)
      (pss_cons (ps_set (i := 7) sc__law_bent_lines.nd rfl (.inl rfl) (pe_cl G__law_draw (hr.mono (by decide : 1 ≤ 2)) (by rfl) pass0 (pa_cons (pv 0) (pa_cons (qe_add (K := K) rfl (pe_callB (qc_len (K := K) rfl) (by rfl) T.len (by decide +kernel) (pa_cons (pv 4) pa_nil)) pe_int) pa_nil))))
      (pss_one (ps_ret (qe_add (K := K) rfl (qe_add (K := K) rfl (qe_slW (K := K) rfl (pv 1) po_none (po_some (pv 3))) (pe_lst (pa_cons (qe_add (K := K) rfl (qe_add (K := K) rfl (qe_slW (K := K) rfl (pv 4) po_none (po_some (pv 7))) (pe_cl G__law_pick (hr.mono (by decide : 2 ≤ 2)) (by rfl) pass0 (pa_cons (pv 0) (pa_cons (pe_lst (pa_cons pe_str (pa_cons pe_str (pa_cons pe_str (pa_cons pe_str (pa_cons pe_str (pa_cons pe_str (pa_cons pe_str (pa_cons pe_str (pa_cons pe_str (pa_cons pe_str pa_nil))))))))))) pa_nil)))) (qe_slW (K := K) rfl (pv 4) (po_some (qe_add (K := K) rfl (pv 7) (pe_cl G__law_draw (hr.mono (by decide : 1 ≤ 2)) (by rfl) pass0 (pa_cons (pv 0) (pa_cons pe_int pa_nil))))) po_none)) pa_nil))) (qe_slW (K := K) rfl (pv 1) (po_some (qe_add (K := K) rfl (pv 3) pe_int)) po_none)))))))))))))))), fun f hcl => ⟨_, (ss_seq (ss_asg (se_tup (sa_cons (se_callK hcl (sa_cons se_int sa_nil)) (sa_cons (se_callK hcl (sa_cons (se_cb sn_len (sa_cons se_var sa_nil)) sa_nil)) sa_nil))) (sg_tup (sgs_cons sg_name (sgs_cons sg_name sgs_nil))))
      (ss_seq (ss_asg (se_op s2_ix se_var se_var) sg_name)
      (ss_seq (ss_if (st_test (se_op s2_eq se_var se_int)) (ss_ret (se_op s2_add (se_sl s3_slW se_var so_none (so_some se_var)) (se_sl s3_slW se_var (so_some (se_op s2_add se_var se_int)) so_none))) ss_next)
      (ss_seq (ss_if (st_test (se_op s2_eq se_var se_int)) (ss_ret (se_op s2_add (se_op s2_add (se_sl s3_slW se_var so_none (so_some se_var)) (se_lst (sa_cons se_var sa_nil))) (se_sl s3_slW se_var (so_some se_var) so_none))) ss_next)
      (ss_seq (ss_if (st_test (se_op s2_eq se_var se_int)) (ss_seq (ss_asg (se_lst (sa_cons se_str (sa_cons se_str (sa_cons se_str (sa_cons se_str (sa_cons se_str (sa_cons se_str (sa_cons se_str (sa_cons se_str sa_nil))))))))) sg_name)
      (ss_ret (se_op s2_add (se_op s2_add (se_sl s3_slW se_var so_none (so_some se_var)) (se_lst (sa_cons (se_callK hcl (sa_cons se_var sa_nil)) sa_nil))) (se_sl s3_slW se_var (so_some se_var) so_none)))) ss_next)
      (ss_seq (ss_if (st_test (se_op s2_eq se_var se_int)) (ss_seq (ss_asg (se_callK hcl (sa_cons (se_cb sn_len (sa_cons se_var sa_nil)) sa_nil)) sg_name)
      (ss_ret (se_own (seo_lc (si_enum (sa_cons se_var sa_nil)) (sg_tup (sgs_cons sg_name (sgs_cons sg_name sgs_nil))) (by decide) st_yes (se_if (st_test (se_op s2_eq se_var se_var)) (se_op s2_ix se_var se_var) (se_if (st_test (se_op s2_eq se_var se_var)) se_var se_var)))))) ss_next)
      (ss_seq (ss_asg (se_split se_var se_str) sg_name)
      (ss_seq (ss_asg (se_callK hcl (sa_cons (se_cb sn_len (sa_cons se_var sa_nil)) sa_nil)) sg_name)
      (ss_seq (ss_if (st_test (se_op s2_eq se_var se_int)) (ss_seq (ss_asg (se_callK hcl (sa_cons (se_lst (sa_cons se_str (sa_cons se_str (sa_cons se_str (sa_cons se_str (sa_cons se_str (sa_cons se_str (sa_cons se_str (sa_cons se_str (sa_cons se_str (sa_cons se_str (sa_cons se_str (sa_cons se_str (sa_cons se_str (sa_cons se_str (sa_cons se_str sa_nil)))))))))))))))) sa_nil)) sg_name)
      (ss_ret (se_op s2_add (se_op s2_add (se_sl s3_slW se_var so_none (so_some se_var)) (se_lst (sa_cons (se_join se_str (se_op s2_add (se_op s2_add (se_sl s3_slW se_var so_none (so_some se_var)) (se_lst (sa_cons se_var sa_nil))) (se_sl s3_slW se_var (so_some (se_op s2_add se_var se_int)) so_none))) sa_nil))) (se_sl s3_slW se_var (so_some (se_op s2_add se_var se_int)) so_none)))) ss_next)
      (ss_seq (ss_if (st_test (se_op s2_eq se_var se_int)) (ss_ret (se_op s2_add (se_op s2_add (se_sl s3_slW se_var so_none (so_some se_var)) (se_lst (sa_cons (se_join se_str (se_op s2_add (se_sl s3_slW se_var so_none (so_some se_var)) (se_sl s3_slW se_var (so_some (se_op s2_add se_var se_int)) so_none))) sa_nil))) (se_sl s3_slW se_var (so_some (se_op s2_add se_var se_int)) so_none))) ss_next)
      (ss_seq (ss_if (st_test (se_op s2_eq se_var se_int)) (ss_ret (se_op s2_add (se_op s2_add (se_sl s3_slW se_var so_none (so_some se_var)) (se_lst (sa_cons (se_join se_str (se_op s2_add (se_op s2_add (se_sl s3_slW se_var so_none (so_some se_var)) (se_sl s3_slW se_var (so_some se_var) (so_some (se_op s2_add se_var se_int)))) (se_sl s3_slW se_var (so_some se_var) so_none))) sa_nil))) (se_sl s3_slW se_var (so_some (se_op s2_add se_var se_int)) so_none))) ss_next)
      (ss_seq (ss_asg (se_callK hcl (sa_cons (se_op s2_add (se_cb sn_len (sa_cons se_var sa_nil)) se_int) sa_nil)) sg_name)
      (ss_ret (se_op s2_add (se_op s2_add (se_sl s3_slW se_var so_none (so_some se_var)) (se_lst (sa_cons (se_op s2_add (se_op s2_add (se_sl s3_slW se_var so_none (so_some se_var)) (se_callK hcl (sa_cons (se_lst (sa_cons se_str (sa_cons se_str (sa_cons se_str (sa_cons se_str (sa_cons se_str (sa_cons se_str (sa_cons se_str (sa_cons se_str (sa_cons se_str (sa_cons se_str sa_nil))))))))))) sa_nil))) (se_sl s3_slW se_var (so_some (se_op s2_add se_var (se_callK hcl (sa_cons se_int sa_nil)))) so_none)) sa_nil))) (se_sl s3_slW se_var (so_some (se_op s2_add se_var se_int)) so_none))))))))))))))), fun ds Qd h => ?_⟩⟩
  obtain ⟨ls, B, R, rfl, l0, l1, hB, hR, hls, q⟩ := h
  have cl : ∀ lo hi, (cutD (ls.map PyData.str) lo hi).length ≤ ls.length := fun lo hi => by
    have := cut_len (ls.map PyData.str) lo hi
    rwa [List.length_map] at this
  have lenA : ∀ lo hi w, (cutD (ls.map PyData.str) lo hi).length + [PyData.str w].length ≤ 100000 := fun lo hi w => by
    have := cl lo hi
    show _ + 1 ≤ 100000
    omega
  have lenB : ∀ lo hi w lo' hi', (cutD (ls.map PyData.str) lo hi ++ [PyData.str w]).length + (cutD (ls.map PyData.str) lo' hi').length ≤ 100000 := fun lo hi w lo' hi' => by
    have := cl lo hi
    have := cl lo' hi'
    rw [List.length_append]
    show _ + 1 + _ ≤ 100000
    omega
  have lenC : ∀ lo hi lo' hi', (cutD (ls.map PyData.str) lo hi).length + (cutD (ls.map PyData.str) lo' hi').length ≤ 100000 := fun lo hi lo' hi' => by
    have := cl lo hi
    have := cl lo' hi'
    omega
  have up : ∀ k ∈ ls, Tx (3 * B + 40) (2 * R + 1) k := fun k hk => (hls k hk).mono (by omega) (by omega)
  have fin2 : ∀ lo hi lo' hi', Qd (.list (cutD (ls.map PyData.str) lo hi ++ cutD (ls.map PyData.str) lo' hi')) := fun lo hi lo' hi' => by
    rw [cut_map, cut_map, ← List.map_append]
    refine q _ ?_ fun k hk => ?_
    · have := cutK_len ls lo hi
      have := cutK_len ls lo' hi'
      rw [List.length_append]
      omega
    · rcases List.mem_append.mp hk with hk | hk
      · exact up k ((cutK_sub ls lo hi).subset hk)
      · exact up k ((cutK_sub ls lo' hi').subset hk)
  have fin3 : ∀ w, Tx (3 * B + 40) (2 * R + 1) w → ∀ lo hi lo' hi', Qd (.list (cutD (ls.map PyData.str) lo hi ++ [PyData.str w] ++ cutD (ls.map PyData.str) lo' hi')) := fun w hw lo hi lo' hi' => by
    rw [cut_map, cut_map, show [PyData.str w] = [w].map .str from rfl, ← List.map_append, ← List.map_append]
    refine q _ ?_ fun k hk => ?_
    · have := cutK_len ls lo hi
      have := cutK_len ls lo' hi'
      rw [List.length_append, List.length_append, List.length_singleton]
      omega
    · rcases List.mem_append.mp hk with hk | hk
      · rcases List.mem_append.mp hk with hk | hk
        · exact up k ((cutK_sub ls lo hi).subset hk)
        · rw [List.mem_singleton.mp hk]
          exact hw
      · exact up k ((cutK_sub ls lo' hi').subset hk)
  refine ⟨by decide, by decide, fun r0 a0 a1 => ⟨by rw [List.length_map]; omega, lt18 (by rw [List.length_map]; omega), fun r1 b0 b1 => ⟨(by show 2 ≤ 1000; decide), rfl, ?_⟩⟩⟩
  rw [List.length_map] at b1
  obtain ⟨n, rfl⟩ : ∃ n : Nat, r1 = n := ⟨r1.toNat, by omega⟩
  have hn : n < ls.length := by omega
  have atn : (ls.map PyData.str)[n]? = some (.str ls[n]) := by rw [List.getElem?_map, List.getElem?_eq_getElem hn]; rfl
  have tl := hls _ (List.getElem_mem hn)
  have ml := List.getElem_mem hn
  refine ix_at atn ?_
  generalize ls[n] = line at tl ml
  refine ⟨rfl, rfl, iteB_i (fun _ => ⟨lenC _ _ _ _, fin2 _ _ _ _⟩) (fun _ => ?_)⟩
  refine ⟨rfl, rfl, iteB_i (fun _ => ⟨(by show 1 ≤ 1000; decide), lenA _ _ _, lenB _ _ _ _ _, fin3 _ (up _ ml) _ _ _ _⟩) (fun _ => ?_)⟩
  refine ⟨rfl, rfl, iteB_i (fun _ => ?_) (fun _ => ?_)⟩
  · refine ⟨(by show 8 ≤ 1000; decide), (by show 0 < 8; decide), (by show 8 ≤ 1000; decide), fun th hth => ?_⟩
    obtain ⟨w, rfl, hw⟩ : LitX 40 2 th := allc (p := LitX 40 2) (lit_mk (by decide +kernel)) (allc (lit_mk (by decide +kernel)) (allc (lit_mk (by decide +kernel)) (allc (lit_mk (by decide +kernel)) (allc (lit_mk (by decide +kernel)) (allc (lit_mk (by decide +kernel)) (allc (lit_mk (by decide +kernel)) (allc (lit_mk (by decide +kernel)) alln))))))) th hth
    exact ⟨(by show 1 ≤ 1000; decide), lenA _ _ _, lenB _ _ _ _ _, fin3 _ (hw.mono (by omega) (by omega)) _ _ _ _⟩
  refine ⟨rfl, rfl, iteB_i (fun _ => ?_) (fun _ => ?_)⟩
  · refine ⟨by rw [List.length_map]; omega, lt18 (by rw [List.length_map]; omega), fun r2 c0 c1 => ?_⟩
    rw [List.length_map] at c1
    obtain ⟨m, rfl⟩ : ∃ n : Nat, r2 = n := ⟨r2.toNat, by omega⟩
    have hm : m < ls.length := by omega
    have atm : (ls.map PyData.str)[m]? = some (.str ls[m]) := by rw [List.getElem?_map, List.getElem?_eq_getElem hm]; rfl
    refine ⟨by rw [enum_len, List.length_map]; omega, comp_each (fun y => ∃ l ∈ ls, y = PyData.str l) _ [] (fun x hx k hk => ?_) (fun ys hyl hys => ?_)⟩
    · obtain ⟨i, y, hy, rfl⟩ := enum_mem hx
      have hi : i < ls.length := by
        have := (List.getElem?_eq_some_iff.mp hy).1
        rwa [List.length_map] at this
      have ey : y = .str ls[i] := by
        rw [List.getElem?_map, List.getElem?_eq_getElem hi] at hy
        exact (Option.some.inj hy).symm
      subst ey
      exact ⟨rfl, rfl, rfl, iteB_i (fun _ => ix_at atm (hk _ ⟨_, List.getElem_mem hm, rfl⟩)) (fun _ => ⟨rfl, rfl, iteB_i (fun _ => hk _ ⟨_, ml, rfl⟩) (fun _ => hk _ ⟨_, List.getElem_mem hi, rfl⟩)⟩)⟩
    · obtain ⟨ks, rfl, e, hk⟩ := strs_of hys
      rw [List.nil_append]
      refine q ks ?_ fun k h => up k (hk k h)
      rw [e, hyl, enum_len, List.length_map]
      omega
  have parts : ∀ w ∈ Txt.split line (" " : Str), Tx B R w := fun w hw => by
    rw [sp_is] at hw
    exact tl.word hw
  have pl : (Txt.split line (" " : Str)).length ≤ B + 1 := by
    rw [sp_is]
    exact Nat.le_trans split_len (Nat.add_le_add_right tl.len 1)
  have pn : 0 < (Txt.split line (" " : Str)).length := List.length_pos_iff.mpr (split_ne _ _)
  have pf : left (Txt.split line (" " : Str)) ≤ B + 1 := by
    rw [sp_is, left_split]
    exact Nat.add_le_add_right tl.len 1
  refine ⟨by decide +kernel, Nat.le_trans tl.len (by omega), ?_⟩
  generalize Txt.split line (" " : Str) = ps at parts pl pn pf
  refine ⟨by rw [List.length_map]; omega, lt18 (by rw [List.length_map]; omega), fun r2 c0 c1 => ?_⟩
  have pc : ∀ lo hi, (cutD (ps.map PyData.str) lo hi).length ≤ B + 1 := fun lo hi => by
    have := cut_len (ps.map PyData.str) lo hi
    rw [List.length_map] at this
    omega
  have cf : ∀ lo hi, left (cutK ps lo hi) ≤ B + 1 := fun lo hi => Nat.le_trans (left_sub (cutK_sub ps lo hi)) pf
  have cm : ∀ lo hi, ∀ k ∈ cutK ps lo hi, Okc k ∧ RunL (2 * R + 1) k.cps.toList := fun lo hi k hk => by
    have := parts k ((cutK_sub ps lo hi).subset hk)
    exact ⟨this.ok, run_mono this.run (by omega)⟩
  have js : ∀ ks : List Str, left ks ≤ 3 * B + 40 → (ks.map (·.length)).sum + ks.length * (" " : Str).length ≤ 1000000 := fun ks h => by
    have z := left_sum ks
    have z2 : (" " : Str).length = 1 := by decide +kernel
    rw [z2, Nat.mul_one]
    omega
  have jt : ∀ ks : List Str, left ks ≤ 3 * B + 40 → (∀ k ∈ ks, Okc k ∧ RunL (2 * R + 1) k.cps.toList) → Tx (3 * B + 40) (2 * R + 1) (Txt.join (" " : Str) ks) := fun ks h g => by
    rw [sp_is]
    exact tx_join (by decide) (by decide) g h
  have pe2 : ∀ lo hi lo' hi', cutD (ps.map PyData.str) lo hi ++ cutD (ps.map PyData.str) lo' hi' = (cutK ps lo hi ++ cutK ps lo' hi').map .str := fun lo hi lo' hi' => by rw [cut_map, cut_map, List.map_append]
  have l2 : ∀ lo hi lo' hi', (cutD (ps.map PyData.str) lo hi).length + (cutD (ps.map PyData.str) lo' hi').length ≤ 100000 := fun lo hi lo' hi' => by
    have := pc lo hi
    have := pc lo' hi'
    omega
  have m2 : ∀ lo hi lo' hi', ∀ k ∈ cutK ps lo hi ++ cutK ps lo' hi', Okc k ∧ RunL (2 * R + 1) k.cps.toList := fun lo hi lo' hi' k hk => by
    rcases List.mem_append.mp hk with hk | hk
    · exact cm lo hi k hk
    · exact cm lo' hi' k hk
  refine ⟨rfl, rfl, iteB_i (fun _ => ?_) (fun _ => ?_)⟩
  · refine ⟨(by show 15 ≤ 1000; decide), (by show 0 < 15; decide), (by show 15 ≤ 1000; decide), fun th hth => ?_⟩
    obtain ⟨w, rfl, hw⟩ : LitX 20 3 th := allc (p := LitX 20 3) (lit_mk (by decide +kernel)) (allc (lit_mk (by decide +kernel)) (allc (lit_mk (by decide +kernel)) (allc (lit_mk (by decide +kernel)) (allc (lit_mk (by decide +kernel)) (allc (lit_mk (by decide +kernel)) (allc (lit_mk (by decide +kernel)) (allc (lit_mk (by decide +kernel)) (allc (lit_mk (by decide +kernel)) (allc (lit_mk (by decide +kernel)) (allc (lit_mk (by decide +kernel)) (allc (lit_mk (by decide +kernel)) (allc (lit_mk (by decide +kernel)) (allc (lit_mk (by decide +kernel)) (allc (lit_mk (by decide +kernel)) alln)))))))))))))) th hth
    have hf : left (cutK ps none (some r2) ++ [w] ++ cutK ps (some (r2 + 1)) none) ≤ 3 * B + 40 := by
      have h1 := cf none (some r2)
      have h2 := cf (some (r2 + 1)) none
      have h3 := hw.len
      rw [left_app, left_app, show left [w] = w.length + 1 from rfl]
      omega
    have l1' := pc none (some r2)
    have l2' := pc (some (r2 + 1)) none
    refine ⟨(by show 1 ≤ 1000; decide), (by show (cutD (ps.map PyData.str) none (some r2)).length + 1 ≤ 100000; omega), (by rw [List.length_append]; show (cutD (ps.map PyData.str) none (some r2)).length + 1 + (cutD (ps.map PyData.str) (some (r2 + 1)) none).length ≤ 100000; omega), cutK ps none (some r2) ++ [w] ++ cutK ps (some (r2 + 1)) none, ?_, js _ hf, (by show 1 ≤ 1000; decide), lenA _ _ _, lenB _ _ _ _ _, fin3 _ (jt _ hf fun k hk => ?_) _ _ _ _⟩
    · rw [List.map_append, List.map_append, ← cut_map, ← cut_map]
      rfl
    · rcases List.mem_append.mp hk with hk | hk
      · rcases List.mem_append.mp hk with hk | hk
        · exact cm _ _ k hk
        · rw [List.mem_singleton.mp hk]
          exact ⟨hw.ok, run_mono hw.run (by omega)⟩
      · exact cm _ _ k hk
  refine ⟨rfl, rfl, iteB_i (fun _ => ?_) (fun _ => ?_)⟩
  · have hf : left (cutK ps none (some r2) ++ cutK ps (some (r2 + 1)) none) ≤ 3 * B + 40 := by
      have h1 := cf none (some r2)
      have h2 := cf (some (r2 + 1)) none
      rw [left_app]
      omega
    exact ⟨l2 _ _ _ _, cutK ps none (some r2) ++ cutK ps (some (r2 + 1)) none, pe2 _ _ _ _, js _ hf, (by show 1 ≤ 1000; decide), lenA _ _ _, lenB _ _ _ _ _, fin3 _ (jt _ hf (m2 _ _ _ _)) _ _ _ _⟩
  refine ⟨rfl, rfl, iteB_i (fun _ => ?_) (fun _ => ?_)⟩
  · have hf : left (cutK ps none (some r2) ++ cutK ps (some r2) (some (r2 + 1)) ++ cutK ps (some r2) none) ≤ 3 * B + 40 := by
      have h1 := cf none (some r2)
      have h2 := cf (some r2) (some (r2 + 1))
      have h3 := cf (some r2) none
      rw [left_app, left_app]
      omega
    have l1' := pc none (some r2)
    have l2' := pc (some r2) (some (r2 + 1))
    have l3' := pc (some r2) none
    refine ⟨l2 _ _ _ _, (by rw [List.length_append]; omega), cutK ps none (some r2) ++ cutK ps (some r2) (some (r2 + 1)) ++ cutK ps (some r2) none, ?_, js _ hf, (by show 1 ≤ 1000; decide), lenA _ _ _, lenB _ _ _ _ _, fin3 _ (jt _ hf fun k hk => ?_) _ _ _ _⟩
    · rw [List.map_append, ← pe2, ← cut_map]
    · rcases List.mem_append.mp hk with hk | hk
      · exact m2 _ _ _ _ k hk
      · exact cm _ _ k hk
  have ll := tl.len
  refine ⟨by omega, by omega, lt18 (by omega), fun r3 d0 d1 => ?_⟩
  refine ⟨by omega, (by show 10 ≤ 1000; decide), (by show 0 < 10; decide), (by show 10 ≤ 1000; decide), fun th hth => ?_⟩
  obtain ⟨w, rfl, hw⟩ : LitX 1 1 th := allc (p := LitX 1 1) (lit_mk (by decide +kernel)) (allc (lit_mk (by decide +kernel)) (allc (lit_mk (by decide +kernel)) (allc (lit_mk (by decide +kernel)) (allc (lit_mk (by decide +kernel)) (allc (lit_mk (by decide +kernel)) (allc (lit_mk (by decide +kernel)) (allc (lit_mk (by decide +kernel)) (allc (lit_mk (by decide +kernel)) (allc (lit_mk (by decide +kernel)) alln))))))))) th hth
  have t1 := tx_app (tl.cut none (some r3)) hw
  refine ⟨?_, by decide, by decide, fun r4 _ _ => ?_⟩
  · have := (tl.cut none (some r3)).len
    have := hw.len
    omega
  have t2 := tx_app t1 (tl.cut (some (r3 + r4)) none)
  refine ⟨by omega, ?_, (by show 1 ≤ 1000; decide), lenA _ _ _, lenB _ _ _ _ _, fin3 _ (t2.mono (by omega) (by omega)) _ _ _ _⟩
  have := t1.len
  have := (tl.cut (some (r3 + r4)) none).len
  omega
end Ey
namespace Ey
open PySem PySem.Spec PyProof.Rows L2
/-! ### law -/
abbrev s_law : Stmt := topS 47
theorem sc_law : FnScope ["script", "deck", "turn_v", "lines", "again", "text", "thing", "due"] ["script"] (defScope s_law) := ⟨rfl, rfl, rfl, by decide +kernel, rfl, by decide +kernel, by decide +kernel⟩
theorem sz_dict0 : Sz 0 1 (.dict []) := by
  refine ⟨⟨?_, ?_, ?_, ?_⟩, ?_⟩
  · show PyData.showableKv _ = true
    simp only [PyData.showableKv]
  · show PyData.leavesShortKv _ _ = true
    simp only [PyData.leavesShortKv]
  · show PyData.bulkKv _ ≤ _
    simp only [PyData.bulkKv]
    omega
  · show PyData.depthKv _ + 1 ≤ _
    simp only [PyData.depthKv]
    omega
  · show ibKv _ = true
    simp only [ibKv]
theorem text_lines {wl : List Wl} (hl : wl.length ≤ 9) (hr : ∀ w ∈ wl, w.Real) (hn : ∀ w ∈ wl, NmK w.n) : (Txt.split (textS wl) ("\n" : Str)).length ≤ 9 ∧ ∀ l ∈ Txt.split (textS wl) ("\n" : Str), Tx 66 2 l := by
  cases wl with
  | nil =>
    have e2 : Txt.split ("" : Str) ("\n" : Str) = [("" : Str)] := by decide +kernel
    rw [text_nil, e2]
    refine ⟨by decide, fun l h => ?_⟩
    rw [List.mem_singleton.mp h]
    exact tx_lit (by decide +kernel)
  | cons w r =>
    rw [text_split hr (by simp)]
    refine ⟨by rw [List.length_map]; exact hl, fun l h => ?_⟩
    obtain ⟨v, hv, rfl⟩ := List.mem_map.mp h
    exact line_tx (hr v hv) (hn v hv)
def bB : Nat → Nat
  | 0 => 66
  | n + 1 => 3 * bB n + 40
def bL : Nat → Nat
  | 0 => 9
  | n + 1 => 2 * bL n + 1
def bR : Nat → Nat
  | 0 => 2
  | n + 1 => 2 * bR n + 1
theorem b_le {j : Nat} (h : j ≤ 2) : bB j ≤ 754 ∧ bL j ≤ 39 ∧ bR j ≤ 11 ∧ 1 ≤ bL j ∧ 1 ≤ bR j := by
  have : j = 0 ∨ j = 1 ∨ j = 2 := by omega
  rcases this with rfl | rfl | rfl <;> decide
/-- the lines behind so many bends -/
structure LinesOk (j : Nat) (ls : List Str) : Prop where
  len : ls.length ≤ bL j
  tx : ∀ l ∈ ls, Tx (bB j) (bR j) l
theorem lines_left {j : Nat} {ls : List Str} (hj : j ≤ 2) (h : LinesOk j ls) : left ls ≤ 39 * 755 := by
  have hb := b_le hj
  have : ∀ ks : List Str, (∀ k ∈ ks, k.length ≤ 754) → left ks ≤ ks.length * 755 := by
    intro ks
    induction ks with
    | nil => intro _; exact Nat.zero_le _
    | cons k ks ih =>
      intro h
      have h1 := h k List.mem_cons_self
      have h2 := ih fun x hx => h x (List.mem_cons_of_mem _ hx)
      unfold left at h2 ⊢
      rw [List.map_cons, List.sum_cons, List.length_cons]
      omega
  have z := this ls fun k hk => Nat.le_trans (h.tx k hk).len hb.1
  have z2 := h.len
  have := Nat.mul_le_mul_right 755 (Nat.le_trans z2 hb.2.1)
  omega
theorem nl_cat {z y : Str} (hz : ∃ n, Tx n 11 z) (hy : y = ("\n" : Str) ∨ y = ("" : Str)) (hl : (z ++ y).length < 200) : Tx 200 12 (z ++ y) := by
  obtain ⟨n, hz⟩ := hz
  have h : Tx (n + 1) (11 + 1) (z ++ y) := by
    rcases hy with rfl | rfl
    · exact tx_app hz (tx_lit (by decide +kernel))
    · exact tx_app hz (tx_lit (by decide +kernel))
  exact ⟨h.ok, by omega, h.run⟩
theorem dif_plan {ρ : Env} (e : ρ[1]? = some Sl.dk) {Q : PyData → Prop} (h : ∀ wl : List Wl, wl.length ≤ 9 → (∀ w ∈ wl, w.Real) → (∀ w ∈ wl, NmK w.n) → Q (.tuple (wl.map Wl.D))) :
    dIf (dTB (dOp dEqF (dCallK 1 m__law_draw nothing (dCons (dC (.int 4)) dNil)) (dC (.int 0)))) (dCallK 1 m__law_crossed_plan nothing (dCons (dC (.int 6)) dNil)) (dCallK 1 m__law_drawn_plan nothing (dCons (dC (.int 6)) dNil)) ρ Q := by
  have ev : ∀ K : Prop, K → onDk ρ[1]? K := fun K k => by
    rw [e]
    exact k
  refine ev _ ⟨by decide, by decide, fun r0 _ _ => ⟨rfl, rfl, iteB_i (fun _ => ?_) (fun _ => ?_)⟩⟩
  · exact ev _ ⟨6, rfl, by decide, fun wl hl hr hn => h wl hl hr.real hn⟩
  · exact ev _ ⟨6, rfl, by decide, fun wl hl hr hn => h wl (by omega) hr.real fun w hw => .inl (hn w hw)⟩
theorem dif_nl {ρ : Env} (e : ρ[1]? = some Sl.dk) {Q : PyData → Prop} (h : ∀ y : Str, (y = ("\n" : Str) ∨ y = ("" : Str)) → Q (.str y)) :
    dIf (dTB (dOp dEqF (dCallK 1 m__law_draw nothing (dCons (dC (.int 12)) dNil)) (dC (.int 0)))) (dC (.str ("\n" : Str))) (dC (.str ("" : Str))) ρ Q := by
  have ev : ∀ K : Prop, K → onDk ρ[1]? K := fun K k => by
    rw [e]
    exact k
  exact ev _ ⟨by decide, by decide, fun r0 _ _ => ⟨rfl, rfl, iteB_i (fun _ => h _ (.inl rfl)) (fun _ => h _ (.inr rfl))⟩⟩
abbrev wrongV (k : Nat) : PyData := .tuple [.str ("wrong" : Str), .int (k : Nat)]
abbrev planV (wl : List Wl) : PyData := .tuple [.str ("plan" : Str), .tuple (wl.map Wl.D)]
theorem readV_two {z : Str} (hz : Tx 200 12 z) : (∃ k, readT z = .inl k ∧ Rz 7000 50 (wrongV k)) ∨ ∃ wl, readT z = .inr wl ∧ Rz 7000 50 (planV wl) := by
  have h := readT_ok hz
  revert h
  generalize readT z = r
  cases r with
  | inl k =>
    intro h
    have h : k ≤ 300 := h
    have z1 : Sz 5 0 (.str ("wrong" : Str)) := sz_str (by decide +kernel) (by decide +kernel)
    have z2 : Sz 0 0 (.int (k : Nat)) := sz_int (Nat.lt_of_le_of_lt (show ((k : Nat) : Int).natAbs ≤ 300 by omega) (by decide))
    exact .inl ⟨k, rfl, ((rza_cons z1.toRz (rza_cons z2.toRz rza_nil)).tuple).mono (by decide) (by decide)⟩
  | inr wl =>
    intro h
    have h : SzA 2412 2 (wl.map Wl.D) := h
    have z1 : Sz 4 0 (.str ("plan" : Str)) := sz_str (by decide +kernel) (by decide +kernel)
    exact .inr ⟨wl, rfl, ((rza_cons (z1.toRz.mono (Nat.le_refl _) (Nat.zero_le 3)) (rza_cons h.tuple.toRz rza_nil)).tuple).mono (by decide) (by decide)⟩
theorem law_ok {P : Program} {w : World} {K : PySem.W.Frag} {mg : Str → Option Value} {base : Heap} {cl : Str → Addr} {fa : Addr} {fd : FuncData} (F : Fun K "law" "law" s_law fa fd) (T : Blt mg) (GK : Fk P w K mg base CX0 1 "_law_deck" ["script", "seed"] (spDeck K)) (G__law_any : Fk P w K mg base CX0 6 "_law_any" ["deck", "deep"] (spD true cl m__law_any)) (G__law_bent_lines : Fk P w K mg base CX0 3 "_law_bent_lines" ["deck", "lines"] (spD true cl m__law_bent_lines)) (G__law_crossed_plan : Fk P w K mg base CX0 6 "_law_crossed_plan" ["deck", "most"] (spD true cl m__law_crossed_plan)) (G__law_draw : Fk P w K mg base CX0 1 "_law_draw" ["deck", "many"] (spD true cl m__law_draw)) (G__law_drawn_plan : Fk P w K mg base CX0 5 "_law_drawn_plan" ["deck", "most"] (spD true cl m__law_drawn_plan)) (G__law_is_wide : Fk P w K mg base CX0 5 "_law_is_wide" ["text"] (spD false cl m__law_is_wide)) (G__law_pick : Fk P w K mg base CX0 2 "_law_pick" ["deck", "some"] (spD true cl m__law_pick)) (G__law_read : Fk P w K mg base CX0 6 "_law_read" ["text"] (spD false cl m__law_read)) (G__law_text : Fk P w K mg base CX0 1 "_law_text" ["plan"] (spD false cl m__law_text)) (G__law_told : Fk P w K mg base CX0 6 "_law_told" ["text", "way"] (spD false cl m__law_told)) : LawOk P w K mg base fa := by
  refine law_data (lv := 20) cl F (F.binds fun _ _ _ _ _ _ us hl => (match us, hl with | [_], _ => rfl)) sc_law (by decide) ⟨rfl, by decide, by decide⟩ fun cdv s H hr => ⟨_, pss_cons (ps_set (i := 1) sc_law.nd rfl (.inl rfl) (pe_cl GK (hr.mono (by decide : 1 ≤ 20)) (by rfl) pass0 (pa_cons (pv 0) (pa_cons pe_int pa_nil)))) (Evl.pss_cut (ps_for PassesOwn.never rfl (pi_range1 (by rfl) T.range (pa_cons pe_int pa_nil)) (pg_name (i := 2) sc_law.nd rfl (.inl rfl)) (pss_cons (ps_set (i := 3) sc_law.nd rfl (.inl rfl) (qe_split (pe_cl G__law_text (hr.mono (by decide : 1 ≤ 20)) (by rfl) pass0 (pa_cons (pe_ifExp (pt_cmpR (qo_eq (K := K) rfl hr.units) (pe_cl G__law_draw (hr.mono (by decide : 1 ≤ 20)) (by rfl) pass0 (pa_cons (pv 1) (pa_cons pe_int pa_nil))) pe_int (nomark _)) (pe_cl G__law_crossed_plan (hr.mono (by decide : 6 ≤ 20)) (by rfl) pass0 (pa_cons (pv 1) (pa_cons pe_int pa_nil))) (pe_cl G__law_drawn_plan (hr.mono (by decide : 5 ≤ 20)) (by rfl) pass0 (pa_cons (pv 1) (pa_cons pe_int pa_nil)))) pa_nil)) pe_str))
      (Evl.pss_cut (ps_for PassesOwn.never rfl (pi_range1 (by rfl) T.range (pa_cons (pe_cl G__law_pick (hr.mono (by decide : 2 ≤ 20)) (by rfl) pass0 (pa_cons (pv 1) (pa_cons (pe_lst (pa_cons pe_int (pa_cons pe_int (pa_cons pe_int (pa_cons pe_int pa_nil))))) pa_nil))) pa_nil)) (pg_name (i := 4) sc_law.nd rfl (.inl rfl)) (pss_one (ps_set (i := 3) sc_law.nd rfl (.inl rfl) (pe_ifExp (pt_cmpR (qo_neNil (K := K) rfl hr.units) (pv 3) (pe_lst pa_nil) (nomark _)) (pe_cl G__law_bent_lines (hr.mono (by decide : 3 ≤ 20)) (by rfl) pass0 (pa_cons (pv 1) (pa_cons (pv 3) pa_nil))) (pe_lst (pa_cons pe_str pa_nil))))))
      (pss_cons (ps_set (i := 5) sc_law.nd rfl (.inl rfl) (qe_add (K := K) rfl (qe_join (K := K) rfl pe_str (pv 3)) (pe_ifExp (pt_cmpR (qo_eq (K := K) rfl hr.units) (pe_cl G__law_draw (hr.mono (by decide : 1 ≤ 20)) (by rfl) pass0 (pa_cons (pv 1) (pa_cons pe_int pa_nil))) pe_int (nomark _)) pe_str pe_str)))
      (pss_one (ps_if (PW.pt (pw_and (pt_cmpR op_lt (pe_callB (qc_len (K := K) rfl) (by rfl) T.len (by decide +kernel) (pa_cons (pv 5) pa_nil)) pe_int (nomark _)) (pw_and1 (pt_not (pt_val (pe_cl G__law_is_wide (hr.mono (by decide : 5 ≤ 20)) (by rfl) pass0 (pa_cons (pv 5) pa_nil))))))) (pss_one (ps_if (pt_cmpR op_ne (pe_callB (cr_repr rfl hr.units) (by rfl) T.repr (by decide +kernel) (pa_cons (pe_cl G__law_told (hr.mono (by decide : 6 ≤ 20)) (by rfl) pass0 (pa_cons (pv 5) (pa_cons (pe_op op_mod (pe_callTy cr_int1 (by rfl) T.int (by decide +kernel) (pa_cons (pv 2) pa_nil)) pe_int) pa_nil))) pa_nil)) (pe_callB (cr_repr rfl hr.units) (by rfl) T.repr (by decide +kernel) (pa_cons (pe_cl G__law_read (hr.mono (by decide : 6 ≤ 20)) (by rfl) pass0 (pa_cons (pv 5) pa_nil)) pa_nil)) (nomark _)) (pss_one (ps_ret pe_bl)) pss_nil)) pss_nil))))))
      (pss_cons (ps_set (i := 6) sc_law.nd rfl (.inl rfl) (pe_cl G__law_pick (hr.mono (by decide : 2 ≤ 20)) (by rfl) pass0 (pa_cons (pv 1) (pa_cons (pe_lst (pa_cons pe_non (pa_cons pe_int (pa_cons pe_bl (pa_cons (pe_lst (pa_cons pe_str pa_nil)) (pa_cons (pe_tup pa_nil) (pa_cons pe_dnewK (pa_cons (pe_cl G__law_any (hr.mono (by decide : 6 ≤ 20)) (by rfl) pass0 (pa_cons (pv 1) (pa_cons pe_int pa_nil))) pa_nil)))))))) pa_nil))))
      (pss_cons (ps_set (i := 5) sc_law.nd rfl (.inl rfl) (pe_callB (cr_repr rfl hr.units) (by rfl) T.repr (by decide +kernel) (pa_cons (pv 6) pa_nil)))
      (Evl.pss_cut (ps_set (i := 7) sc_law.nd rfl (.inl rfl) (pe_ifExp (pt_val (pe_callB (qc_isi (K := K) rfl) (by rfl) T.isinst (by decide +kernel) (pa_cons (pv 6) (pa_cons (pe_bltn (v := .ty "str") (by rfl) T.str (by decide +kernel) rfl) pa_nil)))) (pe_cl G__law_read (hr.mono (by decide : 6 ≤ 20)) (by rfl) pass0 (pa_cons (pv 6) pa_nil)) (pe_tup (pa_cons pe_str (pa_cons pe_int pa_nil)))))
      (pss_one (ps_ret (pe_and (pe_cmpR op_eq (pe_callB (cr_repr rfl hr.units) (by rfl) T.repr (by decide +kernel) (pa_cons (pe_cl G__law_told (hr.mono (by decide : 6 ≤ 20)) (by rfl) pass0 (pa_cons (pv 6) (pa_cons pe_int pa_nil))) pa_nil)) (pe_callB (cr_repr rfl hr.units) (by rfl) T.repr (by decide +kernel) (pa_cons (pv 7) pa_nil)) (nomark _)) (pe_one (pe_cmpR op_eq (pe_callB (cr_repr rfl hr.units) (by rfl) T.repr (by decide +kernel) (pa_cons (pv 6) pa_nil)) (pv 5) (nomark _)))))))))), fun f hcl => ⟨_, (ss_cut (ss_loop (si_rng1 (sa_cons se_int sa_nil)) sg_name (ss_seq (ss_asg (se_split (se_callF hcl (sa_cons (se_if (st_test (se_op s2_eq (se_callK hcl (sa_cons se_int sa_nil)) se_int)) (se_callK hcl (sa_cons se_int sa_nil)) (se_callK hcl (sa_cons se_int sa_nil))) sa_nil)) se_str) sg_name)
      (ss_cut (ss_loop (si_rng1 (sa_cons (se_callK hcl (sa_cons (se_lst (sa_cons se_int (sa_cons se_int (sa_cons se_int (sa_cons se_int sa_nil))))) sa_nil)) sa_nil)) sg_name (ss_asg (se_if (st_test (se_op s2_nil se_var (se_lst sa_nil))) (se_callK hcl (sa_cons se_var sa_nil)) (se_lst (sa_cons se_str sa_nil))) sg_name))
      (ss_seq (ss_asg (se_op s2_add (se_join se_str se_var) (se_if (st_test (se_op s2_eq (se_callK hcl (sa_cons se_int sa_nil)) se_int)) se_str se_str)) sg_name)
      (ss_if (st_and (st_test (se_op s2_lt (se_cb sn_len (sa_cons se_var sa_nil)) se_int)) (st_not (st_b (se_callF hcl (sa_cons se_var sa_nil))))) (ss_if (st_test (se_reprNe (se_callF hcl (sa_cons se_var (sa_cons (se_op s2_mod (se_cb sn_int1 (sa_cons se_var sa_nil)) se_int) sa_nil))) (se_callF hcl (sa_cons se_var sa_nil)))) (ss_ret se_bl) ss_next) ss_next)))))
      (ss_seq (ss_asg (se_callK hcl (sa_cons (se_lst (sa_cons se_non (sa_cons se_int (sa_cons se_bl (sa_cons (se_lst (sa_cons se_str sa_nil)) (sa_cons (se_tup sa_nil) (sa_cons se_dict0 (sa_cons (se_callK hcl (sa_cons se_int sa_nil)) sa_nil)))))))) sa_nil)) sg_name)
      (ss_seq (ss_asg (se_cb sn_repr (sa_cons se_var sa_nil)) sg_name)
      (ss_cut (ss_asg (se_if (st_b (se_isi isi_str se_var)) (se_callF hcl (sa_cons se_var sa_nil)) (se_tup (sa_cons se_str (sa_cons se_int sa_nil)))) sg_name)
      (ss_ret (se_and (se_reprEq (se_callF hcl (sa_cons se_var (sa_cons se_int sa_nil))) se_var) (se_reprEqV se_var se_var))))))), ?_⟩⟩
  refine ⟨fun ρ => ∃ s2 s3 s4 s5 s6 s7 : Sl, ρ = [.any, .dk, s2, s3, s4, s5, s6, s7], ⟨by decide, by decide, loop_ind (fun r ρ => (∃ k m, r = rngD k m) ∧ ∃ s2 s3 s4 s5 s6 s7 : Sl, ρ = [.any, .dk, s2, s3, s4, s5, s6, s7]) (fun ρ h => h.2) (fun x r ρ h N hN => ?_) _ ⟨⟨_, _, rfl⟩, _, _, _, _, _, _, rfl⟩⟩, ?_⟩
  · obtain ⟨⟨k, m, er⟩, s2, s3, s4, s5, s6, s7, rfl⟩ := h
    obtain ⟨m', rfl, rfl, rfl⟩ := rng_at er
    have go : ∀ {t3 t4 t5 t6 t7 : Sl}, N [.any, .dk, .d (.int k), t3, t4, t5, t6, t7] := hN _ ⟨⟨_, _, rfl⟩, _, _, _, _, _, _, rfl⟩
    refine @dif_plan [.any, .dk, .d (.int k), s3, s4, s5, s6, s7] rfl _ fun wl hl hr hn => ⟨wl, rfl, hr, hl, ?_⟩
    obtain ⟨tl, tt⟩ := text_lines hl hr hn
    refine ⟨by decide +kernel, Nat.le_trans (text_len hr) (by omega), ?_⟩
    generalize Txt.split (textS wl) ("\n" : Str) = ls0 at tl tt
    refine ⟨fun ρ => ∃ (j : Nat) (ls : List Str) (t4 t5 : Sl), ρ = [.any, .dk, .d (.int k), .d (.list (ls.map .str)), t4, t5, s6, s7] ∧ j ≤ 2 ∧ LinesOk j ls, ⟨(by show 4 ≤ 1000; decide), (by show 0 < 4; decide), (by show 4 ≤ 1000; decide), fun v hv => ?_⟩, ?_⟩
    · obtain ⟨t, rfl, ht⟩ : ∃ m : Nat, v = .int (m : Nat) ∧ m ≤ 2 := allc (p := fun v => ∃ m : Nat, v = .int (m : Nat) ∧ m ≤ 2) ⟨1, rfl, by decide⟩ (allc ⟨0, rfl, by decide⟩ (allc ⟨1, rfl, by decide⟩ (allc ⟨2, rfl, by decide⟩ alln))) v hv
      refine ⟨by omega, by omega, loop_ind (fun r ρ => ∃ (i : Int) (n : Nat), r = rngD i n ∧ ∃ (j : Nat) (ls : List Str) (t4 t5 : Sl), ρ = [.any, .dk, .d (.int k), .d (.list (ls.map .str)), t4, t5, s6, s7] ∧ j + n ≤ 2 ∧ LinesOk j ls) (fun ρ h => ?_) (fun x r ρ h N2 hN2 => ?_) _ ⟨0, _, rfl, 0, ls0, _, _, rfl, by omega, ⟨tl, tt⟩⟩⟩
      · obtain ⟨i, n, _, j, ls, t4, t5, rfl, hj, h⟩ := h
        exact ⟨j, ls, _, _, rfl, by omega, h⟩
      · obtain ⟨i, n, er2, j, ls, t4, t5, rfl, hj, h⟩ := h
        obtain ⟨n', rfl, rfl, rfl⟩ := rng_at er2
        obtain ⟨b1, b2, b3, b4, b5⟩ := b_le (show j ≤ 2 by omega)
        obtain ⟨c1, c2, c3, c4, c5⟩ := b_le (show j + 1 ≤ 2 by omega)
        refine ⟨(by show 0 ≤ 1000; decide), iteB_i (fun t1 => ?_) (fun t1 => ?_)⟩
        · have l0 : 0 < ls.length := by
            cases ls with
            | nil => cases t1
            | cons a b => exact Nat.succ_pos _
          have hl2 := h.len
          refine ⟨ls, bB j, bR j, rfl, l0, by omega, by omega, b5, h.tx, fun ks hk htx => hN2 _ ⟨_, _, rfl, j + 1, ks, _, _, rfl, by omega, ?_, htx⟩⟩
          show ks.length ≤ 2 * bL j + 1
          omega
        · refine ⟨(by show 1 ≤ 1000; decide), hN2 _ ⟨_, _, rfl, j + 1, [("" : Str)], _, _, rfl, by omega, c4, fun l hm => ?_⟩⟩
          rw [List.mem_singleton.mp hm]
          exact (tx_lit (n := 0) (m := 0) (by decide +kernel)).mono (Nat.zero_le _) (Nat.zero_le _)
    · rintro ρ ⟨j, ls, t4, t5, rfl, hj, h⟩
      have hf := lines_left hj h
      obtain ⟨b1, b2, b3, b4, b5⟩ := b_le hj
      have jt : Tx (39 * 755) 11 (Txt.join ("\n" : Str) ls) := by
        rw [nl_is]
        exact tx_join (by decide) (by decide) (fun k hk => ⟨(h.tx k hk).ok, run_mono (h.tx k hk).run b3⟩) hf
      refine ⟨ls, rfl, ?_, ?_⟩
      · have z := left_sum ls
        have z2 : ("\n" : Str).length = 1 := by decide +kernel
        rw [z2, Nat.mul_one]
        omega
      generalize Txt.join ("\n" : Str) ls = jn at jt
      refine dif_nl rfl fun y hy => ?_
      have yl : y.length ≤ 1 := by
        rcases hy with rfl | rfl <;> decide +kernel
      have ll := jt.len
      have la : (jn ++ y).length = jn.length + y.length := PySem.strLen_append _ _
      have cat : (jn ++ y).length < 200 → Tx 200 12 (jn ++ y) := nl_cat ⟨_, jt⟩ hy
      refine ⟨by omega, ?_⟩
      generalize jn ++ y = tx at la cat
      refine ⟨by omega, iteB_i (fun t1 => ?_) (fun t1 => go)⟩
      have t1 : ((tx.length : Nat) : Int) < 200 := of_decide_eq_true t1
      have ht := cat (by omega)
      refine ⟨tx, rfl, ht, fun b => iteB_i (fun t2 => ?_) (fun t2 => go)⟩
      rcases readV_two ht with ⟨n, e, rz⟩ | ⟨wl, e, rz⟩
      · refine ⟨(by show (0 : Int) < 2; decide), .str tx, _, rfl, .inr ⟨tx, rfl, ht, ?_⟩⟩
        rw [e]
        refine ⟨rz, tx, rfl, ht, ?_⟩
        rw [e]
        exact ⟨rfl, go⟩
      · refine ⟨(by show (0 : Int) < 2; decide), .str tx, _, rfl, .inr ⟨tx, rfl, ht, ?_⟩⟩
        rw [e]
        refine ⟨rz, tx, rfl, ht, ?_⟩
        rw [e]
        exact ⟨rfl, go⟩
  · rintro ρ ⟨s2, s3, s4, s5, s6, s7, rfl⟩
    refine ⟨(by show 1 ≤ 1000; decide), (by show 0 ≤ 1000; decide), 2, rfl, by decide, fun av hav hat => ⟨(by show 7 ≤ 1000; decide), (by show 0 < 7; decide), (by show 7 ≤ 1000; decide), fun th hth => ?_⟩⟩
    obtain ⟨rz, hs⟩ : Rz 7000 50 th ∧ ∀ z, th = .str z → Tx 200 12 z := by
      have s1 : Rz 7000 50 (.list [.str ("wall a 0 0 1 1" : Str)]) := ((rza_cons (sz_str (n := 14) (by decide +kernel) (by decide +kernel)).toRz rza_nil).list).mono (by decide) (by decide)
      exact allc (p := fun th => Rz 7000 50 th ∧ ∀ z, th = .str z → Tx 200 12 z) ⟨sz_none.toRz.mono (by decide) (by decide), fun z e => by cases e⟩ (allc ⟨(sz_int (by decide)).toRz.mono (by decide) (by decide), fun z e => by cases e⟩ (allc ⟨(sz_bool true).toRz.mono (by decide) (by decide), fun z e => by cases e⟩ (allc ⟨s1, fun z e => by cases e⟩ (allc ⟨(sza_nil (m := 1)).tuple.toRz.mono (by decide) (by decide), fun z e => by cases e⟩ (allc ⟨sz_dict0.toRz.mono (by decide) (by decide), fun z e => by cases e⟩ (allc ⟨hav.toRz.mono (by decide) (by decide), hat⟩ alln)))))) th hth
    refine ⟨rz, fun ρ => ∃ due : PyData, ρ = [.any, .dk, s2, s3, s4, .d (.str th.shown), .d th, .d due] ∧ ((isStr th = false ∧ due = .tuple [.str ("wrong" : Str), .int 0]) ∨ ∃ z, th = .str z ∧ Tx 200 12 z ∧ ((∃ k, readT z = .inl k ∧ due = wrongV k) ∨ ∃ wl, readT z = .inr wl ∧ due = planV wl)), iteB_i (fun t1 => ?_) (fun t1 => ?_), ?_⟩
    · cases th with
      | str z =>
        have hz := hs z rfl
        refine ⟨z, rfl, hz, ?_⟩
        rcases readV_two hz with ⟨n, e, _⟩ | ⟨wl, e, _⟩
        · rw [e]
          exact ⟨_, rfl, .inr ⟨z, rfl, hz, .inl ⟨n, e, rfl⟩⟩⟩
        · rw [e]
          exact ⟨_, rfl, .inr ⟨z, rfl, hz, .inr ⟨wl, e, rfl⟩⟩⟩
      | _ => cases t1
    · exact ⟨(by show 2 ≤ 1000; decide), _, rfl, .inl ⟨t1, rfl⟩⟩
    · rintro ρ ⟨due, rfl, h⟩
      rcases h with ⟨h1, rfl⟩ | ⟨z, rfl, hz, h⟩
      · have rw0 : Rz 7000 50 (.tuple [.str ("wrong" : Str), .int 0]) := ((rza_cons (sz_str (x := ("wrong" : Str)) (n := 5) (by decide +kernel) (by decide +kernel)).toRz (rza_cons (sz_int (i := 0) (by decide)).toRz rza_nil)).tuple).mono (by decide) (by decide)
        exact ⟨th, _, rfl, .inl ⟨h1, rw0, rfl, rz, rfl, rfl⟩⟩
      · refine ⟨.str z, _, rfl, .inr ⟨z, rfl, hz, ?_⟩⟩
        rcases readV_two hz with ⟨n, e, rz2⟩ | ⟨wl, e, rz2⟩
        · rcases h with ⟨n', e', rfl⟩ | ⟨wl, e', _⟩
          · rw [e] at e' ⊢
            cases e'
            exact ⟨rz2, rfl, rz, rfl, rfl⟩
          · rw [e] at e'
            cases e'
        · rcases h with ⟨n', e', rfl⟩ | ⟨wl', e', rfl⟩
          · rw [e] at e'
            cases e'
          · rw [e] at e' ⊢
            cases e'
            exact ⟨rz2, rfl, rz, rfl, rfl⟩
end Ey
namespace Ey
open PySem PySem.Spec PyProof.Rows L2
/-! ### what the top has written; the end -/
theorem at_mk {K : PySem.W.Frag} {h : Heap} {mg : Str → Option Value} {x : Str} {st : Stmt} {f : Addr} {oc : Value} {od an : Option Addr} {sl : Array (Option Value)} {kV dc pm cd ct : Value} (X : K.In h) (G : h.Ns mainGlobals mg)
    (a : PySem.W.nsIn K mainGlobals x = some (some (.ref f))) (l : K.lookup f = some ⟨oc, od, .func (PySem.W.fnOf x x (defArgs st) (defBody st) (defScope st) .none kV dc pm an cd ct), sl⟩) (c : PySem.W.codeIn K cd x = true) (k : PySem.W.keepIn K (.ref f) = true) : At K mg x st :=
  ⟨f, _, fun_mk l c k, PySem.W.mg_of X G a⟩
/-- the first def of a class -/
def clsIni : Stmt → Stmt
  | .ClassDef (body := b) .. => b.getD 0 (.Pass ⟨0, 0, 0, 0⟩)
  | s => s
theorem all_mk {P : Program} {w : World} {K : PySem.W.Frag} {h : Heap} {mg : Str → Option Value} {fa : Addr} (X : K.In h) (G : h.Ns mainGlobals mg) (hfa : mg "law" = some (.ref fa))
    {f0 : Addr} {oc0 : Value} {od0 an0 : Option Addr} {sl0 : Array (Option Value)} {kV0 dc0 pm0 cd0 ct0 : Value}
    {f1 : Addr} {oc1 : Value} {od1 an1 : Option Addr} {sl1 : Array (Option Value)} {kV1 dc1 pm1 cd1 ct1 : Value}
    {f2 : Addr} {oc2 : Value} {od2 an2 : Option Addr} {sl2 : Array (Option Value)} {kV2 dc2 pm2 cd2 ct2 : Value}
    {f3 : Addr} {oc3 : Value} {od3 an3 : Option Addr} {sl3 : Array (Option Value)} {kV3 dc3 pm3 cd3 ct3 : Value}
    {f4 : Addr} {oc4 : Value} {od4 an4 : Option Addr} {sl4 : Array (Option Value)} {kV4 dc4 pm4 cd4 ct4 : Value}
    {f5 : Addr} {oc5 : Value} {od5 an5 : Option Addr} {sl5 : Array (Option Value)} {kV5 dc5 pm5 cd5 ct5 : Value}
    {f6 : Addr} {oc6 : Value} {od6 an6 : Option Addr} {sl6 : Array (Option Value)} {kV6 dc6 pm6 cd6 ct6 : Value}
    {f7 : Addr} {oc7 : Value} {od7 an7 : Option Addr} {sl7 : Array (Option Value)} {kV7 dc7 pm7 cd7 ct7 : Value}
    {f8 : Addr} {oc8 : Value} {od8 an8 : Option Addr} {sl8 : Array (Option Value)} {kV8 dc8 pm8 cd8 ct8 : Value}
    {f9 : Addr} {oc9 : Value} {od9 an9 : Option Addr} {sl9 : Array (Option Value)} {kV9 dc9 pm9 cd9 ct9 : Value}
    {f10 : Addr} {oc10 : Value} {od10 an10 : Option Addr} {sl10 : Array (Option Value)} {kV10 dc10 pm10 cd10 ct10 : Value}
    {f11 : Addr} {oc11 : Value} {od11 an11 : Option Addr} {sl11 : Array (Option Value)} {kV11 dc11 pm11 cd11 ct11 : Value}
    {f12 : Addr} {oc12 : Value} {od12 an12 : Option Addr} {sl12 : Array (Option Value)} {kV12 dc12 pm12 cd12 ct12 : Value}
    {f13 : Addr} {oc13 : Value} {od13 an13 : Option Addr} {sl13 : Array (Option Value)} {kV13 dc13 pm13 cd13 ct13 : Value}
    {f14 : Addr} {oc14 : Value} {od14 an14 : Option Addr} {sl14 : Array (Option Value)} {kV14 dc14 pm14 cd14 ct14 : Value}
    {f15 : Addr} {oc15 : Value} {od15 an15 : Option Addr} {sl15 : Array (Option Value)} {kV15 dc15 pm15 cd15 ct15 : Value}
    {f16 : Addr} {oc16 : Value} {od16 an16 : Option Addr} {sl16 : Array (Option Value)} {kV16 dc16 pm16 cd16 ct16 : Value}
    {f17 : Addr} {oc17 : Value} {od17 an17 : Option Addr} {sl17 : Array (Option Value)} {kV17 dc17 pm17 cd17 ct17 : Value}
    {f18 : Addr} {oc18 : Value} {od18 an18 : Option Addr} {sl18 : Array (Option Value)} {kV18 dc18 pm18 cd18 ct18 : Value}
    {f19 : Addr} {oc19 : Value} {od19 an19 : Option Addr} {sl19 : Array (Option Value)} {kV19 dc19 pm19 cd19 ct19 : Value}
    {f20 : Addr} {oc20 : Value} {od20 an20 : Option Addr} {sl20 : Array (Option Value)} {kV20 dc20 pm20 cd20 ct20 : Value}
    {f21 : Addr} {oc21 : Value} {od21 an21 : Option Addr} {sl21 : Array (Option Value)} {kV21 dc21 pm21 cd21 ct21 : Value}
    {f22 : Addr} {oc22 : Value} {od22 an22 : Option Addr} {sl22 : Array (Option Value)} {kV22 dc22 pm22 cd22 ct22 : Value}
    {f23 : Addr} {oc23 : Value} {od23 an23 : Option Addr} {sl23 : Array (Option Value)} {kV23 dc23 pm23 cd23 ct23 : Value}
    {f24 : Addr} {oc24 : Value} {od24 an24 : Option Addr} {sl24 : Array (Option Value)} {kV24 dc24 pm24 cd24 ct24 : Value}
    {f25 : Addr} {oc25 : Value} {od25 an25 : Option Addr} {sl25 : Array (Option Value)} {kV25 dc25 pm25 cd25 ct25 : Value}
    {f26 : Addr} {oc26 : Value} {od26 an26 : Option Addr} {sl26 : Array (Option Value)} {kV26 dc26 pm26 cd26 ct26 : Value}
    {f27 : Addr} {oc27 : Value} {od27 an27 : Option Addr} {sl27 : Array (Option Value)} {kV27 dc27 pm27 cd27 ct27 : Value}
    {f28 : Addr} {oc28 : Value} {od28 an28 : Option Addr} {sl28 : Array (Option Value)} {kV28 dc28 pm28 cd28 ct28 : Value}
    {f29 : Addr} {oc29 : Value} {od29 an29 : Option Addr} {sl29 : Array (Option Value)} {kV29 dc29 pm29 cd29 ct29 : Value}
    {f30 : Addr} {oc30 : Value} {od30 an30 : Option Addr} {sl30 : Array (Option Value)} {kV30 dc30 pm30 cd30 ct30 : Value}
    {f31 : Addr} {oc31 : Value} {od31 an31 : Option Addr} {sl31 : Array (Option Value)} {kV31 dc31 pm31 cd31 ct31 : Value}
    {f32 : Addr} {oc32 : Value} {od32 an32 : Option Addr} {sl32 : Array (Option Value)} {kV32 dc32 pm32 cd32 ct32 : Value}
    {f33 : Addr} {oc33 : Value} {od33 an33 : Option Addr} {sl33 : Array (Option Value)} {kV33 dc33 pm33 cd33 ct33 : Value}
    {f34 : Addr} {oc34 : Value} {od34 an34 : Option Addr} {sl34 : Array (Option Value)} {kV34 dc34 pm34 cd34 ct34 : Value}
    {f35 : Addr} {oc35 : Value} {od35 an35 : Option Addr} {sl35 : Array (Option Value)} {kV35 dc35 pm35 cd35 ct35 : Value}
    {f36 : Addr} {oc36 : Value} {od36 an36 : Option Addr} {sl36 : Array (Option Value)} {kV36 dc36 pm36 cd36 ct36 : Value}
    {f37 : Addr} {oc37 : Value} {od37 an37 : Option Addr} {sl37 : Array (Option Value)} {kV37 dc37 pm37 cd37 ct37 : Value}
    {f38 : Addr} {oc38 : Value} {od38 an38 : Option Addr} {sl38 : Array (Option Value)} {kV38 dc38 pm38 cd38 ct38 : Value}
    (a0 : PySem.W.nsIn K mainGlobals "_law_deck" = some (some (.ref f0))) (l0 : K.lookup f0 = some ⟨oc0, od0, .func (PySem.W.fnOf "_law_deck" "_law_deck" (defArgs sDeck) (defBody sDeck) (defScope sDeck) .none kV0 dc0 pm0 an0 cd0 ct0), sl0⟩) (c0 : PySem.W.codeIn K cd0 "_law_deck" = true) (k0 : PySem.W.keepIn K (.ref f0) = true)
    (a1 : PySem.W.nsIn K mainGlobals "_law_draw" = some (some (.ref f1))) (l1 : K.lookup f1 = some ⟨oc1, od1, .func (PySem.W.fnOf "_law_draw" "_law_draw" (defArgs sDraw) (defBody sDraw) (defScope sDraw) .none kV1 dc1 pm1 an1 cd1 ct1), sl1⟩) (c1 : PySem.W.codeIn K cd1 "_law_draw" = true) (k1 : PySem.W.keepIn K (.ref f1) = true)
    (a2 : PySem.W.nsIn K mainGlobals "is_integer" = some (some (.ref f2))) (l2 : K.lookup f2 = some ⟨oc2, od2, .func (PySem.W.fnOf "is_integer" "is_integer" (defArgs s_is_integer) (defBody s_is_integer) (defScope s_is_integer) .none kV2 dc2 pm2 an2 cd2 ct2), sl2⟩) (c2 : PySem.W.codeIn K cd2 "is_integer" = true) (k2 : PySem.W.keepIn K (.ref f2) = true)
    (a3 : PySem.W.nsIn K mainGlobals "turn" = some (some (.ref f3))) (l3 : K.lookup f3 = some ⟨oc3, od3, .func (PySem.W.fnOf "turn" "turn" (defArgs s_turn) (defBody s_turn) (defScope s_turn) .none kV3 dc3 pm3 an3 cd3 ct3), sl3⟩) (c3 : PySem.W.codeIn K cd3 "turn" = true) (k3 : PySem.W.keepIn K (.ref f3) = true)
    (a4 : PySem.W.nsIn K mainGlobals "is_name" = some (some (.ref f4))) (l4 : K.lookup f4 = some ⟨oc4, od4, .func (PySem.W.fnOf "is_name" "is_name" (defArgs s_is_name) (defBody s_is_name) (defScope s_is_name) .none kV4 dc4 pm4 an4 cd4 ct4), sl4⟩) (c4 : PySem.W.codeIn K cd4 "is_name" = true) (k4 : PySem.W.keepIn K (.ref f4) = true)
    (a5 : PySem.W.nsIn K mainGlobals "_law_is_integer" = some (some (.ref f5))) (l5 : K.lookup f5 = some ⟨oc5, od5, .func (PySem.W.fnOf "_law_is_integer" "_law_is_integer" (defArgs s__law_is_integer) (defBody s__law_is_integer) (defScope s__law_is_integer) .none kV5 dc5 pm5 an5 cd5 ct5), sl5⟩) (c5 : PySem.W.codeIn K cd5 "_law_is_integer" = true) (k5 : PySem.W.keepIn K (.ref f5) = true)
    (a6 : PySem.W.nsIn K mainGlobals "_law_is_name" = some (some (.ref f6))) (l6 : K.lookup f6 = some ⟨oc6, od6, .func (PySem.W.fnOf "_law_is_name" "_law_is_name" (defArgs s__law_is_name) (defBody s__law_is_name) (defScope s__law_is_name) .none kV6 dc6 pm6 an6 cd6 ct6), sl6⟩) (c6 : PySem.W.codeIn K cd6 "_law_is_name" = true) (k6 : PySem.W.keepIn K (.ref f6) = true)
    (a7 : PySem.W.nsIn K mainGlobals "_law_sign" = some (some (.ref f7))) (l7 : K.lookup f7 = some ⟨oc7, od7, .func (PySem.W.fnOf "_law_sign" "_law_sign" (defArgs s__law_sign) (defBody s__law_sign) (defScope s__law_sign) .none kV7 dc7 pm7 an7 cd7 ct7), sl7⟩) (c7 : PySem.W.codeIn K cd7 "_law_sign" = true) (k7 : PySem.W.keepIn K (.ref f7) = true)
    (a8 : PySem.W.nsIn K mainGlobals "_law_moved" = some (some (.ref f8))) (l8 : K.lookup f8 = some ⟨oc8, od8, .func (PySem.W.fnOf "_law_moved" "_law_moved" (defArgs s__law_moved) (defBody s__law_moved) (defScope s__law_moved) .none kV8 dc8 pm8 an8 cd8 ct8), sl8⟩) (c8 : PySem.W.codeIn K cd8 "_law_moved" = true) (k8 : PySem.W.keepIn K (.ref f8) = true)
    (a9 : PySem.W.nsIn K mainGlobals "_law_layouts" = some (some (.ref f9))) (l9 : K.lookup f9 = some ⟨oc9, od9, .func (PySem.W.fnOf "_law_layouts" "_law_layouts" (defArgs s__law_layouts) (defBody s__law_layouts) (defScope s__law_layouts) .none kV9 dc9 pm9 an9 cd9 ct9), sl9⟩) (c9 : PySem.W.codeIn K cd9 "_law_layouts" = true) (k9 : PySem.W.keepIn K (.ref f9) = true)
    (a10 : PySem.W.nsIn K mainGlobals "_law_text" = some (some (.ref f10))) (l10 : K.lookup f10 = some ⟨oc10, od10, .func (PySem.W.fnOf "_law_text" "_law_text" (defArgs s__law_text) (defBody s__law_text) (defScope s__law_text) .none kV10 dc10 pm10 an10 cd10 ct10), sl10⟩) (c10 : PySem.W.codeIn K cd10 "_law_text" = true) (k10 : PySem.W.keepIn K (.ref f10) = true)
    (a11 : PySem.W.nsIn K mainGlobals "is_numeral" = some (some (.ref f11))) (l11 : K.lookup f11 = some ⟨oc11, od11, .func (PySem.W.fnOf "is_numeral" "is_numeral" (defArgs s_is_numeral) (defBody s_is_numeral) (defScope s_is_numeral) .none kV11 dc11 pm11 an11 cd11 ct11), sl11⟩) (c11 : PySem.W.codeIn K cd11 "is_numeral" = true) (k11 : PySem.W.keepIn K (.ref f11) = true)
    (a12 : PySem.W.nsIn K mainGlobals "_law_read_integer" = some (some (.ref f12))) (l12 : K.lookup f12 = some ⟨oc12, od12, .func (PySem.W.fnOf "_law_read_integer" "_law_read_integer" (defArgs s__law_read_integer) (defBody s__law_read_integer) (defScope s__law_read_integer) .none kV12 dc12 pm12 an12 cd12 ct12), sl12⟩) (c12 : PySem.W.codeIn K cd12 "_law_read_integer" = true) (k12 : PySem.W.keepIn K (.ref f12) = true)
    (a13 : PySem.W.nsIn K mainGlobals "is_tuple_of_integers" = some (some (.ref f13))) (l13 : K.lookup f13 = some ⟨oc13, od13, .func (PySem.W.fnOf "is_tuple_of_integers" "is_tuple_of_integers" (defArgs s_is_tuple_of_integers) (defBody s_is_tuple_of_integers) (defScope s_is_tuple_of_integers) .none kV13 dc13 pm13 an13 cd13 ct13), sl13⟩) (c13 : PySem.W.codeIn K cd13 "is_tuple_of_integers" = true) (k13 : PySem.W.keepIn K (.ref f13) = true)
    (a14 : PySem.W.nsIn K mainGlobals "separates" = some (some (.ref f14))) (l14 : K.lookup f14 = some ⟨oc14, od14, .func (PySem.W.fnOf "separates" "separates" (defArgs s_separates) (defBody s_separates) (defScope s_separates) .none kV14 dc14 pm14 an14 cd14 ct14), sl14⟩) (c14 : PySem.W.codeIn K cd14 "separates" = true) (k14 : PySem.W.keepIn K (.ref f14) = true)
    (a15 : PySem.W.nsIn K mainGlobals "_law_are_integers" = some (some (.ref f15))) (l15 : K.lookup f15 = some ⟨oc15, od15, .func (PySem.W.fnOf "_law_are_integers" "_law_are_integers" (defArgs s__law_are_integers) (defBody s__law_are_integers) (defScope s__law_are_integers) .none kV15 dc15 pm15 an15 cd15 ct15), sl15⟩) (c15 : PySem.W.codeIn K cd15 "_law_are_integers" = true) (k15 : PySem.W.keepIn K (.ref f15) = true)
    (a16 : PySem.W.nsIn K mainGlobals "_law_turn" = some (some (.ref f16))) (l16 : K.lookup f16 = some ⟨oc16, od16, .func (PySem.W.fnOf "_law_turn" "_law_turn" (defArgs s__law_turn) (defBody s__law_turn) (defScope s__law_turn) .none kV16 dc16 pm16 an16 cd16 ct16), sl16⟩) (c16 : PySem.W.codeIn K cd16 "_law_turn" = true) (k16 : PySem.W.keepIn K (.ref f16) = true)
    (a17 : PySem.W.nsIn K mainGlobals "_law_pick" = some (some (.ref f17))) (l17 : K.lookup f17 = some ⟨oc17, od17, .func (PySem.W.fnOf "_law_pick" "_law_pick" (defArgs s__law_pick) (defBody s__law_pick) (defScope s__law_pick) .none kV17 dc17 pm17 an17 cd17 ct17), sl17⟩) (c17 : PySem.W.codeIn K cd17 "_law_pick" = true) (k17 : PySem.W.keepIn K (.ref f17) = true)
    (a18 : PySem.W.nsIn K mainGlobals "_law_names" = some (some (.ref f18))) (l18 : K.lookup f18 = some ⟨oc18, od18, .func (PySem.W.fnOf "_law_names" "_law_names" (defArgs s__law_names) (defBody s__law_names) (defScope s__law_names) .none kV18 dc18 pm18 an18 cd18 ct18), sl18⟩) (c18 : PySem.W.codeIn K cd18 "_law_names" = true) (k18 : PySem.W.keepIn K (.ref f18) = true)
    (a19 : PySem.W.nsIn K mainGlobals "clash" = some (some (.ref f19))) (l19 : K.lookup f19 = some ⟨oc19, od19, .func (PySem.W.fnOf "clash" "clash" (defArgs s_clash) (defBody s_clash) (defScope s_clash) .none kV19 dc19 pm19 an19 cd19 ct19), sl19⟩) (c19 : PySem.W.codeIn K cd19 "clash" = true) (k19 : PySem.W.keepIn K (.ref f19) = true)
    (a20 : PySem.W.nsIn K mainGlobals "is_named_segment" = some (some (.ref f20))) (l20 : K.lookup f20 = some ⟨oc20, od20, .func (PySem.W.fnOf "is_named_segment" "is_named_segment" (defArgs s_is_named_segment) (defBody s_is_named_segment) (defScope s_is_named_segment) .none kV20 dc20 pm20 an20 cd20 ct20), sl20⟩) (c20 : PySem.W.codeIn K cd20 "is_named_segment" = true) (k20 : PySem.W.keepIn K (.ref f20) = true)
    (a21 : PySem.W.nsIn K mainGlobals "_law_is_segment" = some (some (.ref f21))) (l21 : K.lookup f21 = some ⟨oc21, od21, .func (PySem.W.fnOf "_law_is_segment" "_law_is_segment" (defArgs s__law_is_segment) (defBody s__law_is_segment) (defScope s__law_is_segment) .none kV21 dc21 pm21 an21 cd21 ct21), sl21⟩) (c21 : PySem.W.codeIn K cd21 "_law_is_segment" = true) (k21 : PySem.W.keepIn K (.ref f21) = true)
    (a22 : PySem.W.nsIn K mainGlobals "_law_is_crossed" = some (some (.ref f22))) (l22 : K.lookup f22 = some ⟨oc22, od22, .func (PySem.W.fnOf "_law_is_crossed" "_law_is_crossed" (defArgs s__law_is_crossed) (defBody s__law_is_crossed) (defScope s__law_is_crossed) .none kV22 dc22 pm22 an22 cd22 ct22), sl22⟩) (c22 : PySem.W.codeIn K cd22 "_law_is_crossed" = true) (k22 : PySem.W.keepIn K (.ref f22) = true)
    (a23 : PySem.W.nsIn K mainGlobals "_law_bent_lines" = some (some (.ref f23))) (l23 : K.lookup f23 = some ⟨oc23, od23, .func (PySem.W.fnOf "_law_bent_lines" "_law_bent_lines" (defArgs s__law_bent_lines) (defBody s__law_bent_lines) (defScope s__law_bent_lines) .none kV23 dc23 pm23 an23 cd23 ct23), sl23⟩) (c23 : PySem.W.codeIn K cd23 "_law_bent_lines" = true) (k23 : PySem.W.keepIn K (.ref f23) = true)
    (a24 : PySem.W.nsIn K mainGlobals "_law_are_segments" = some (some (.ref f24))) (l24 : K.lookup f24 = some ⟨oc24, od24, .func (PySem.W.fnOf "_law_are_segments" "_law_are_segments" (defArgs s__law_are_segments) (defBody s__law_are_segments) (defScope s__law_are_segments) .none kV24 dc24 pm24 an24 cd24 ct24), sl24⟩) (c24 : PySem.W.codeIn K cd24 "_law_are_segments" = true) (k24 : PySem.W.keepIn K (.ref f24) = true)
    (a25 : PySem.W.nsIn K mainGlobals "_law_fault" = some (some (.ref f25))) (l25 : K.lookup f25 = some ⟨oc25, od25, .func (PySem.W.fnOf "_law_fault" "_law_fault" (defArgs s__law_fault) (defBody s__law_fault) (defScope s__law_fault) .none kV25 dc25 pm25 an25 cd25 ct25), sl25⟩) (c25 : PySem.W.codeIn K cd25 "_law_fault" = true) (k25 : PySem.W.keepIn K (.ref f25) = true)
    (a26 : PySem.W.nsIn K mainGlobals "_law_free" = some (some (.ref f26))) (l26 : K.lookup f26 = some ⟨oc26, od26, .func (PySem.W.fnOf "_law_free" "_law_free" (defArgs s__law_free) (defBody s__law_free) (defScope s__law_free) .none kV26 dc26 pm26 an26 cd26 ct26), sl26⟩) (c26 : PySem.W.codeIn K cd26 "_law_free" = true) (k26 : PySem.W.keepIn K (.ref f26) = true)
    (a27 : PySem.W.nsIn K mainGlobals "read_line" = some (some (.ref f27))) (l27 : K.lookup f27 = some ⟨oc27, od27, .func (PySem.W.fnOf "read_line" "read_line" (defArgs s_read_line) (defBody s_read_line) (defScope s_read_line) .none kV27 dc27 pm27 an27 cd27 ct27), sl27⟩) (c27 : PySem.W.codeIn K cd27 "read_line" = true) (k27 : PySem.W.keepIn K (.ref f27) = true)
    (a28 : PySem.W.nsIn K mainGlobals "fits" = some (some (.ref f28))) (l28 : K.lookup f28 = some ⟨oc28, od28, .func (PySem.W.fnOf "fits" "fits" (defArgs s_fits) (defBody s_fits) (defScope s_fits) .none kV28 dc28 pm28 an28 cd28 ct28), sl28⟩) (c28 : PySem.W.codeIn K cd28 "fits" = true) (k28 : PySem.W.keepIn K (.ref f28) = true)
    (a29 : PySem.W.nsIn K mainGlobals "_law_read_segment" = some (some (.ref f29))) (l29 : K.lookup f29 = some ⟨oc29, od29, .func (PySem.W.fnOf "_law_read_segment" "_law_read_segment" (defArgs s__law_read_segment) (defBody s__law_read_segment) (defScope s__law_read_segment) .none kV29 dc29 pm29 an29 cd29 ct29), sl29⟩) (c29 : PySem.W.codeIn K cd29 "_law_read_segment" = true) (k29 : PySem.W.keepIn K (.ref f29) = true)
    (a30 : PySem.W.nsIn K mainGlobals "_law_is_plan" = some (some (.ref f30))) (l30 : K.lookup f30 = some ⟨oc30, od30, .func (PySem.W.fnOf "_law_is_plan" "_law_is_plan" (defArgs s__law_is_plan) (defBody s__law_is_plan) (defScope s__law_is_plan) .none kV30 dc30 pm30 an30 cd30 ct30), sl30⟩) (c30 : PySem.W.codeIn K cd30 "_law_is_plan" = true) (k30 : PySem.W.keepIn K (.ref f30) = true)
    (a31 : PySem.W.nsIn K mainGlobals "_law_drawn_plan" = some (some (.ref f31))) (l31 : K.lookup f31 = some ⟨oc31, od31, .func (PySem.W.fnOf "_law_drawn_plan" "_law_drawn_plan" (defArgs s__law_drawn_plan) (defBody s__law_drawn_plan) (defScope s__law_drawn_plan) .none kV31 dc31 pm31 an31 cd31 ct31), sl31⟩) (c31 : PySem.W.codeIn K cd31 "_law_drawn_plan" = true) (k31 : PySem.W.keepIn K (.ref f31) = true)
    (a32 : PySem.W.nsIn K mainGlobals "read_plan" = some (some (.ref f32))) (l32 : K.lookup f32 = some ⟨oc32, od32, .func (PySem.W.fnOf "read_plan" "read_plan" (defArgs s_read_plan) (defBody s_read_plan) (defScope s_read_plan) .none kV32 dc32 pm32 an32 cd32 ct32), sl32⟩) (c32 : PySem.W.codeIn K cd32 "read_plan" = true) (k32 : PySem.W.keepIn K (.ref f32) = true)
    (a33 : PySem.W.nsIn K mainGlobals "_law_is_wide" = some (some (.ref f33))) (l33 : K.lookup f33 = some ⟨oc33, od33, .func (PySem.W.fnOf "_law_is_wide" "_law_is_wide" (defArgs s__law_is_wide) (defBody s__law_is_wide) (defScope s__law_is_wide) .none kV33 dc33 pm33 an33 cd33 ct33), sl33⟩) (c33 : PySem.W.codeIn K cd33 "_law_is_wide" = true) (k33 : PySem.W.keepIn K (.ref f33) = true)
    (a34 : PySem.W.nsIn K mainGlobals "_law_any" = some (some (.ref f34))) (l34 : K.lookup f34 = some ⟨oc34, od34, .func (PySem.W.fnOf "_law_any" "_law_any" (defArgs s__law_any) (defBody s__law_any) (defScope s__law_any) .none kV34 dc34 pm34 an34 cd34 ct34), sl34⟩) (c34 : PySem.W.codeIn K cd34 "_law_any" = true) (k34 : PySem.W.keepIn K (.ref f34) = true)
    (a35 : PySem.W.nsIn K mainGlobals "_law_crossed_plan" = some (some (.ref f35))) (l35 : K.lookup f35 = some ⟨oc35, od35, .func (PySem.W.fnOf "_law_crossed_plan" "_law_crossed_plan" (defArgs s__law_crossed_plan) (defBody s__law_crossed_plan) (defScope s__law_crossed_plan) .none kV35 dc35 pm35 an35 cd35 ct35), sl35⟩) (c35 : PySem.W.codeIn K cd35 "_law_crossed_plan" = true) (k35 : PySem.W.keepIn K (.ref f35) = true)
    (a36 : PySem.W.nsIn K mainGlobals "_law_read" = some (some (.ref f36))) (l36 : K.lookup f36 = some ⟨oc36, od36, .func (PySem.W.fnOf "_law_read" "_law_read" (defArgs s__law_read) (defBody s__law_read) (defScope s__law_read) .none kV36 dc36 pm36 an36 cd36 ct36), sl36⟩) (c36 : PySem.W.codeIn K cd36 "_law_read" = true) (k36 : PySem.W.keepIn K (.ref f36) = true)
    (a37 : PySem.W.nsIn K mainGlobals "_law_told" = some (some (.ref f37))) (l37 : K.lookup f37 = some ⟨oc37, od37, .func (PySem.W.fnOf "_law_told" "_law_told" (defArgs s__law_told) (defBody s__law_told) (defScope s__law_told) .none kV37 dc37 pm37 an37 cd37 ct37), sl37⟩) (c37 : PySem.W.codeIn K cd37 "_law_told" = true) (k37 : PySem.W.keepIn K (.ref f37) = true)
    (a38 : PySem.W.nsIn K mainGlobals "law" = some (some (.ref f38))) (l38 : K.lookup f38 = some ⟨oc38, od38, .func (PySem.W.fnOf "law" "law" (defArgs s_law) (defBody s_law) (defScope s_law) .none kV38 dc38 pm38 an38 cd38 ct38), sl38⟩) (c38 : PySem.W.codeIn K cd38 "law" = true) (k38 : PySem.W.keepIn K (.ref f38) = true)
    (aB0 : PySem.W.nsIn K mainGlobals "EyeError" = some (some (.ref B0)))
    (aC0 : PySem.W.nsIn K mainGlobals "BadText" = some (some (.ref C0)))
    (xL0 : K.lookup C0 = some (excClassObj nm0 q0 C0 N0 bs0 (.ref B0 :: ESX.exTail) true sn0 sub0 ab0 col0 dd0 x00 x10 x20 x30 x50 "Exception.__new__"))
    (su0 : PySem.W.alongIn K "__init__" (.ref B0 :: ESX.exTail) = some (some (.builtin "Exception.__init__")))
    (sa0 : PySem.W.findIn K (.ref C0) "__setattr__" = some (some (.builtin "object.__setattr__")))
    (ga0 : PySem.W.findIn K (.ref C0) "__getattribute__" = some (some (.builtin "BaseException.__getattribute__")))
    (gt0 : PySem.W.findIn K (.ref C0) "__getattr__" = some none)
    (nf0 : PySem.W.findIn K (.ref C0) "line" = some none)
    (iC0 : PySem.W.findIn K (.ref C0) "__init__" = some (some (.ref I0)))
    (tI0 : PySem.W.typeIn K (.ref I0) = some (.type "function"))
    (kC0 : PySem.W.keepIn K (.ref C0) = true)
    (eC0 : PySem.W.subIn K (.ref C0) (.type "BaseException") = some true)
    (eE0 : PySem.W.subIn K (.ref C0) (.type "Exception") = some true)
    (tC0 : PySem.W.typeIn K (.ref C0) = some (.type "type"))
    (hC0 : PySem.W.hasDictIn K C0 = true)
    (sC0 : PySem.W.subIn K (.ref C0) (.ref C0) = some true)
    (lI0 : K.lookup I0 = some ⟨ocI0, odI0, .func (PySem.W.ksFn "__init__" "BadText.__init__" (defArgs (clsIni (topS 2))) (defBody (clsIni (topS 2))) (defScope (clsIni (topS 2))) .none .none dcI0 pmI0 anI0 (.ref cda0) ctI0 cc0), slI0⟩)
    (cI0 : PySem.W.codeIn K (.ref cda0) "BadText.__init__" = true)
    (lc0 : K.lookup cc0 = some ⟨cl0, cld0, .cell (some (.ref C0)), csl0⟩)
    (lk0 : K.lookup cda0 = some ⟨ccl0, cdd0, .fields vs0, ccs0⟩)
    (hv0 : vs0[2]? = some (.str file0 tf0))
    (hf0 : ((P.main.file : Str) == file0) = true)
    (ha0 : PySem.W.findIn K (.ref C0) "__class__" = some (some (.builtin "object.__class__")))
    (hm0 : PySem.W.mroIn K C0 (.type "object") = some true)
    (ki0 : PySem.W.kitOne K (.ref C0) (.ref B0) = some true)
    (zsup : PySem.W.nsIn K mainGlobals "super" = some none)
    (htop : (P.main.scope.names.lookup ("super" : Str)).isSome = false)
    (opq : PySem.W.nsIn K PySem.cStatics "thirdparty.any" = some none)
    (sp0 : PySem.W.specialIn K (.builtin "object.__class__") "__get__" = some (some (.builtin "getset_descriptor.__get__")))
    (tk0 : PySem.W.takesIn K (.builtin "object.__class__") = some true)
    (gcv_DIGITS : PySem.W.nsIn K mainGlobals "DIGITS" = some (some (.str ("0123456789" : Str) tkc_DIGITS)))
    (gcv_LETTERS : PySem.W.nsIn K mainGlobals "LETTERS" = some (some (.str ("abcdefghijklmnopqrstuvwxyz" : Str) tkc_LETTERS)))
    (gcv_LONGEST_NAME : PySem.W.nsIn K mainGlobals "LONGEST_NAME" = some (some (.int (8) tkc_LONGEST_NAME)))
    (z0 : PySem.W.nsIn K mainGlobals "int" = some none) (z1 : PySem.W.nsIn K mainGlobals "max" = some none) (z2 : PySem.W.nsIn K mainGlobals "len" = some none) (z3 : PySem.W.nsIn K mainGlobals "list" = some none) (z4 : PySem.W.nsIn K mainGlobals "range" = some none) (z5 : PySem.W.nsIn K mainGlobals "tuple" = some none) (z6 : PySem.W.nsIn K mainGlobals "isinstance" = some none) (z7 : PySem.W.nsIn K mainGlobals "bool" = some none) (z8 : PySem.W.nsIn K mainGlobals "abs" = some none) (z9 : PySem.W.nsIn K mainGlobals "repr" = some none) (z10 : PySem.W.nsIn K mainGlobals "str" = some none) (z11 : PySem.W.nsIn K mainGlobals "all" = some none) (z12 : PySem.W.nsIn K mainGlobals "min" = some none) (z13 : PySem.W.nsIn K mainGlobals "any" = some none) (z14 : PySem.W.nsIn K mainGlobals "sorted" = some none) (z15 : PySem.W.nsIn K mainGlobals "zip" = some none) (z16 : PySem.W.nsIn K mainGlobals "enumerate" = some none) (z17 : PySem.W.nsIn K mainGlobals "set" = some none) (z18 : PySem.W.nsIn K mainGlobals "dict" = some none)
     : ∀ base : Heap, K.In base → base.Ns mainGlobals mg → LawOk P w K mg base fa := by
  intro base _ _
  have T : Blt mg := ⟨PySem.W.mg_none_of X G z0, PySem.W.mg_none_of X G z1, PySem.W.mg_none_of X G z2, PySem.W.mg_none_of X G z3, PySem.W.mg_none_of X G z4, PySem.W.mg_none_of X G z5, PySem.W.mg_none_of X G z6, PySem.W.mg_none_of X G z7, PySem.W.mg_none_of X G z8, PySem.W.mg_none_of X G z9, PySem.W.mg_none_of X G z10, PySem.W.mg_none_of X G z11, PySem.W.mg_none_of X G z12, PySem.W.mg_none_of X G z13, PySem.W.mg_none_of X G z14, PySem.W.mg_none_of X G z15, PySem.W.mg_none_of X G z16, PySem.W.mg_none_of X G z17, PySem.W.mg_none_of X G z18⟩
  have S__law_deck : At K mg "_law_deck" sDeck := at_mk X G a0 l0 c0 k0
  have S__law_draw : At K mg "_law_draw" sDraw := at_mk X G a1 l1 c1 k1
  have S_is_integer : At K mg "is_integer" s_is_integer := at_mk X G a2 l2 c2 k2
  have S_turn : At K mg "turn" s_turn := at_mk X G a3 l3 c3 k3
  have S_is_name : At K mg "is_name" s_is_name := at_mk X G a4 l4 c4 k4
  have S__law_is_integer : At K mg "_law_is_integer" s__law_is_integer := at_mk X G a5 l5 c5 k5
  have S__law_is_name : At K mg "_law_is_name" s__law_is_name := at_mk X G a6 l6 c6 k6
  have S__law_sign : At K mg "_law_sign" s__law_sign := at_mk X G a7 l7 c7 k7
  have S__law_moved : At K mg "_law_moved" s__law_moved := at_mk X G a8 l8 c8 k8
  have S__law_layouts : At K mg "_law_layouts" s__law_layouts := at_mk X G a9 l9 c9 k9
  have S__law_text : At K mg "_law_text" s__law_text := at_mk X G a10 l10 c10 k10
  have S_is_numeral : At K mg "is_numeral" s_is_numeral := at_mk X G a11 l11 c11 k11
  have S__law_read_integer : At K mg "_law_read_integer" s__law_read_integer := at_mk X G a12 l12 c12 k12
  have S_is_tuple_of_integers : At K mg "is_tuple_of_integers" s_is_tuple_of_integers := at_mk X G a13 l13 c13 k13
  have S_separates : At K mg "separates" s_separates := at_mk X G a14 l14 c14 k14
  have S__law_are_integers : At K mg "_law_are_integers" s__law_are_integers := at_mk X G a15 l15 c15 k15
  have S__law_turn : At K mg "_law_turn" s__law_turn := at_mk X G a16 l16 c16 k16
  have S__law_pick : At K mg "_law_pick" s__law_pick := at_mk X G a17 l17 c17 k17
  have S__law_names : At K mg "_law_names" s__law_names := at_mk X G a18 l18 c18 k18
  have S_clash : At K mg "clash" s_clash := at_mk X G a19 l19 c19 k19
  have S_is_named_segment : At K mg "is_named_segment" s_is_named_segment := at_mk X G a20 l20 c20 k20
  have S__law_is_segment : At K mg "_law_is_segment" s__law_is_segment := at_mk X G a21 l21 c21 k21
  have S__law_is_crossed : At K mg "_law_is_crossed" s__law_is_crossed := at_mk X G a22 l22 c22 k22
  have S__law_bent_lines : At K mg "_law_bent_lines" s__law_bent_lines := at_mk X G a23 l23 c23 k23
  have S__law_are_segments : At K mg "_law_are_segments" s__law_are_segments := at_mk X G a24 l24 c24 k24
  have S__law_fault : At K mg "_law_fault" s__law_fault := at_mk X G a25 l25 c25 k25
  have S__law_free : At K mg "_law_free" s__law_free := at_mk X G a26 l26 c26 k26
  have S_read_line : At K mg "read_line" s_read_line := at_mk X G a27 l27 c27 k27
  have S_fits : At K mg "fits" s_fits := at_mk X G a28 l28 c28 k28
  have S__law_read_segment : At K mg "_law_read_segment" s__law_read_segment := at_mk X G a29 l29 c29 k29
  have S__law_is_plan : At K mg "_law_is_plan" s__law_is_plan := at_mk X G a30 l30 c30 k30
  have S__law_drawn_plan : At K mg "_law_drawn_plan" s__law_drawn_plan := at_mk X G a31 l31 c31 k31
  have S_read_plan : At K mg "read_plan" s_read_plan := at_mk X G a32 l32 c32 k32
  have S__law_is_wide : At K mg "_law_is_wide" s__law_is_wide := at_mk X G a33 l33 c33 k33
  have S__law_any : At K mg "_law_any" s__law_any := at_mk X G a34 l34 c34 k34
  have S__law_crossed_plan : At K mg "_law_crossed_plan" s__law_crossed_plan := at_mk X G a35 l35 c35 k35
  have S__law_read : At K mg "_law_read" s__law_read := at_mk X G a36 l36 c36 k36
  have S__law_told : At K mg "_law_told" s__law_told := at_mk X G a37 l37 c37 k37
  obtain ⟨fL, fdL, FL, gL⟩ : ∃ (f : Addr) (fd : FuncData), Fun K "law" "law" s_law f fd ∧ mg "law" = some (.ref f) := (at_mk X G a38 l38 c38 k38 : At K mg "law" s_law).ex
  cases gL.symm.trans hfa
  have te0 : PySem.W.exmOne K (.ref C0) (.ref C0) = some true := PySem.W.exm_ref eC0 hC0 tC0 sC0
  have X0 : L2.ExcC K C0 := ⟨ga0, gt0, eC0, hC0, ha0, sp0, tk0, hm0⟩
  have gB0 := PySem.W.mg_of X G aB0
  have E0 : ErrTxt P K mg "BadText" "line" C0 B0 I0 :=
    { gC := PySem.W.mg_of X G aC0, cls := ⟨_, _, _, _, _, _, _, _, _, _, _, _, _, _, xL0⟩, su := su0, sa := sa0, ga := ga0, gg := gt0, noN := nf0, iC := iC0, tC := tI0, kC := kC0, exC := eC0, exE := eE0, tyC := tC0, hdC := hC0,
      fs := by decide, fsu := by decide, fcl := by decide, fdb := by decide, nsup := PySem.W.mg_none_of X G zsup, top := htop, opq := opq,
      fn := ⟨_, _, _, _, _, _, _, _, _, _, _, _, _, _, _, _, _, _, _, _, _, _, _, _, lI0, cI0, fun _ _ _ => .of_eq rfl, ⟨_, _, _, lc0⟩, ⟨_, _, _, _, _, _, lk0, hv0, hf0⟩, fun _ => ⟨_, rfl⟩⟩ }
  let cl : Str → Addr := fun c => if c = ("BadText" : Str) then C0 else 0
  have hC_BadText : cl "BadText" = C0 := by
    show (if ("BadText" : Str) = ("BadText" : Str) then C0 else 0) = C0
    rw [if_pos rfl]
  have gc_DIGITS : ∃ t, mg "DIGITS" = some (.str ("0123456789" : Str) t) := ⟨_, PySem.W.mg_of X G gcv_DIGITS⟩
  have gc_LETTERS : ∃ t, mg "LETTERS" = some (.str ("abcdefghijklmnopqrstuvwxyz" : Str) t) := ⟨_, PySem.W.mg_of X G gcv_LETTERS⟩
  have gc_LONGEST_NAME : ∃ t, mg "LONGEST_NAME" = some (.int (8) t) := ⟨_, PySem.W.mg_of X G gcv_LONGEST_NAME⟩
  have GK := fk_deck (P := P) (w := w) (base := base) S__law_deck T
  have G__law_draw := fk__law_draw (P := P) (w := w) (base := base) (cl := cl) S__law_draw T
  have kw_read_plan_0 : KwOf K "read_plan" s_read_plan ["text"] ["text"] [0] := fun f fd F s ws _ hl => by
    obtain ⟨oc, od, kV, doc, pm, an, cdv, ct, osl, rfl, _, _⟩ := F.ex
    match ws, hl with
    | [u0], _ => exact .of_eq rfl
  have G_is_integer := fk_is_integer (P := P) (w := w) (base := base) (cl := cl) S_is_integer T  
  have G_turn := fk_turn (P := P) (w := w) (base := base) (cl := cl) S_turn T  
  have G_is_name := fk_is_name (P := P) (w := w) (base := base) (cl := cl) S_is_name T gc_DIGITS gc_LETTERS gc_LONGEST_NAME 
  have G__law_is_integer := fk__law_is_integer (P := P) (w := w) (base := base) (cl := cl) S__law_is_integer T  
  have G__law_is_name := fk__law_is_name (P := P) (w := w) (base := base) (cl := cl) S__law_is_name T  
  have G__law_sign := fk__law_sign (P := P) (w := w) (base := base) (cl := cl) S__law_sign T  
  have G__law_moved := fk__law_moved (P := P) (w := w) (base := base) (cl := cl) S__law_moved T  
  have G__law_layouts := fk__law_layouts (P := P) (w := w) (base := base) (cl := cl) S__law_layouts T  
  have G__law_text := fk__law_text (P := P) (w := w) (base := base) (cl := cl) S__law_text T  
  have G_is_numeral := fk_is_numeral (P := P) (w := w) (base := base) (cl := cl) S_is_numeral T gc_DIGITS 
  have G__law_read_integer := fk__law_read_integer (P := P) (w := w) (base := base) (cl := cl) S__law_read_integer T  
  have G_is_tuple_of_integers := fk_is_tuple_of_integers (P := P) (w := w) (base := base) (cl := cl) S_is_tuple_of_integers T G_is_integer 
  have G_separates := fk_separates (P := P) (w := w) (base := base) (cl := cl) S_separates T G_turn 
  have G__law_are_integers := fk__law_are_integers (P := P) (w := w) (base := base) (cl := cl) S__law_are_integers T G__law_is_integer 
  have G__law_turn := fk__law_turn (P := P) (w := w) (base := base) (cl := cl) S__law_turn T G__law_sign 
  have G__law_pick := fk__law_pick (P := P) (w := w) (base := base) (cl := cl) S__law_pick T G__law_draw 
  have G__law_names := fk__law_names (P := P) (w := w) (base := base) (cl := cl) S__law_names T G__law_draw 
  have G_clash := fk_clash (P := P) (w := w) (base := base) (cl := cl) S_clash T G_separates G_turn 
  have G_is_named_segment := fk_is_named_segment (P := P) (w := w) (base := base) (cl := cl) S_is_named_segment T G_is_name G_is_tuple_of_integers 
  have G__law_is_segment := fk__law_is_segment (P := P) (w := w) (base := base) (cl := cl) S__law_is_segment T G__law_are_integers G__law_is_name 
  have G__law_is_crossed := fk__law_is_crossed (P := P) (w := w) (base := base) (cl := cl) S__law_is_crossed T G__law_turn 
  have G__law_bent_lines := fk__law_bent_lines (P := P) (w := w) (base := base) (cl := cl) S__law_bent_lines T G__law_draw G__law_pick 
  have G__law_are_segments := fk__law_are_segments (P := P) (w := w) (base := base) (cl := cl) S__law_are_segments T G__law_is_segment 
  have G__law_fault := fk__law_fault (P := P) (w := w) (base := base) (cl := cl) S__law_fault T G__law_is_crossed 
  have G__law_free := fk__law_free (P := P) (w := w) (base := base) (cl := cl) S__law_free T G__law_draw G__law_is_crossed G__law_pick 
  have G_read_line := fk_read_line (P := P) (w := w) (base := base) (cl := cl) S_read_line T G_is_named_segment G_is_numeral 
  have G_fits := fk_fits (P := P) (w := w) (base := base) (cl := cl) S_fits T G_clash 
  have G__law_read_segment := fk__law_read_segment (P := P) (w := w) (base := base) (cl := cl) S__law_read_segment T G__law_is_segment G__law_read_integer 
  have G__law_is_plan := fk__law_is_plan (P := P) (w := w) (base := base) (cl := cl) S__law_is_plan T G__law_are_segments G__law_fault 
  have G__law_drawn_plan := fk__law_drawn_plan (P := P) (w := w) (base := base) (cl := cl) S__law_drawn_plan T G__law_draw G__law_free G__law_layouts G__law_moved G__law_names G__law_pick 
  have G_read_plan := fk_read_plan (P := P) (w := w) (base := base) (cl := cl) S_read_plan T E0 hC_BadText G_fits G_read_line 
  have G__law_is_wide := fk__law_is_wide (P := P) (w := w) (base := base) (cl := cl) S__law_is_wide T G__law_read_segment 
  have G__law_any := fk__law_any (P := P) (w := w) (base := base) (cl := cl) S__law_any T G__law_draw G__law_pick 
  have G__law_crossed_plan := fk__law_crossed_plan (P := P) (w := w) (base := base) (cl := cl) S__law_crossed_plan T G__law_draw G__law_drawn_plan G__law_pick 
  have G__law_read := fk__law_read (P := P) (w := w) (base := base) (cl := cl) S__law_read T G__law_is_plan G__law_read_segment 
  have G__law_told := fk__law_told (P := P) (w := w) (base := base) (cl := cl) S__law_told T E0 hC_BadText G_read_plan S_read_plan kw_read_plan_0 X0 te0 ki0 gB0 
  exact law_ok (P := P) (w := w) (base := base) (cl := cl) FL T GK G__law_any G__law_bent_lines G__law_crossed_plan G__law_draw G__law_drawn_plan G__law_is_wide G__law_pick G__law_read G__law_text G__law_told
end Ey
open PySem PySem.W PyProof.Rows
set_option maxHeartbeats 0 in
theorem PySem.Challenge.cw_eyeorder_k09_texts_of_plans_changed_holds : PySem.Challenge.rw_eyeorder_k09_texts_of_plans_changed.Holds := by
  w_on; o_law; k_head; (case hw => w_witness2)
  k_fill
  refine Ey.walk_at (l := PySem.Challenge.rw_eyeorder_k09_texts_of_plans_changed) rfl rfl (fun w h Y => PySem.W.kIn_of Y) ?F
  case F =>
    intro w mg fa h KX G hmg
    refine' Ey.all_mk KX G hmg ?a0 ?l0 ?c0 ?k0 ?a1 ?l1 ?c1 ?k1 ?a2 ?l2 ?c2 ?k2 ?a3 ?l3 ?c3 ?k3 ?a4 ?l4 ?c4 ?k4 ?a5 ?l5 ?c5 ?k5 ?a6 ?l6 ?c6 ?k6 ?a7 ?l7 ?c7 ?k7 ?a8 ?l8 ?c8 ?k8 ?a9 ?l9 ?c9 ?k9 ?a10 ?l10 ?c10 ?k10 ?a11 ?l11 ?c11 ?k11 ?a12 ?l12 ?c12 ?k12 ?a13 ?l13 ?c13 ?k13 ?a14 ?l14 ?c14 ?k14 ?a15 ?l15 ?c15 ?k15 ?a16 ?l16 ?c16 ?k16 ?a17 ?l17 ?c17 ?k17 ?a18 ?l18 ?c18 ?k18 ?a19 ?l19 ?c19 ?k19 ?a20 ?l20 ?c20 ?k20 ?a21 ?l21 ?c21 ?k21 ?a22 ?l22 ?c22 ?k22 ?a23 ?l23 ?c23 ?k23 ?a24 ?l24 ?c24 ?k24 ?a25 ?l25 ?c25 ?k25 ?a26 ?l26 ?c26 ?k26 ?a27 ?l27 ?c27 ?k27 ?a28 ?l28 ?c28 ?k28 ?a29 ?l29 ?c29 ?k29 ?a30 ?l30 ?c30 ?k30 ?a31 ?l31 ?c31 ?k31 ?a32 ?l32 ?c32 ?k32 ?a33 ?l33 ?c33 ?k33 ?a34 ?l34 ?c34 ?k34 ?a35 ?l35 ?c35 ?k35 ?a36 ?l36 ?c36 ?k36 ?a37 ?l37 ?c37 ?k37 ?a38 ?l38 ?c38 ?k38 ?aB0 ?aC0 ?xL0 ?su0 ?sa0 ?ga0 ?gt0 ?nf0 ?iC0 ?tI0 ?kC0 ?eC0 ?eE0 ?tC0 ?hC0 ?sC0 ?lI0 ?cI0 ?lc0 ?lk0 ?hv0 ?hf0 ?ha0 ?hm0 ?ki0 ?zsup ?htop ?opq ?sp0 ?tk0 ?gcv_DIGITS ?gcv_LETTERS ?gcv_LONGEST_NAME ?z0 ?z1 ?z2 ?z3 ?z4 ?z5 ?z6 ?z7 ?z8 ?z9 ?z10 ?z11 ?z12 ?z13 ?z14 ?z15 ?z16 ?z17 ?z18
    (case a0 => k_is)
    (case l0 => k_is)
    (case c0 => k_is)
    (case k0 => k_is)
    (case a1 => k_is)
    (case l1 => k_is)
    (case c1 => k_is)
    (case k1 => k_is)
    (case a2 => k_is)
    (case l2 => k_is)
    (case c2 => k_is)
    (case k2 => k_is)
    (case a3 => k_is)
    (case l3 => k_is)
    (case c3 => k_is)
    (case k3 => k_is)
    (case a4 => k_is)
    (case l4 => k_is)
    (case c4 => k_is)
    (case k4 => k_is)
    (case a5 => k_is)
    (case l5 => k_is)
    (case c5 => k_is)
    (case k5 => k_is)
    (case a6 => k_is)
    (case l6 => k_is)
    (case c6 => k_is)
    (case k6 => k_is)
    (case a7 => k_is)
    (case l7 => k_is)
    (case c7 => k_is)
    (case k7 => k_is)
    (case a8 => k_is)
    (case l8 => k_is)
    (case c8 => k_is)
    (case k8 => k_is)
    (case a9 => k_is)
    (case l9 => k_is)
    (case c9 => k_is)
    (case k9 => k_is)
    (case a10 => k_is)
    (case l10 => k_is)
    (case c10 => k_is)
    (case k10 => k_is)
    (case a11 => k_is)
    (case l11 => k_is)
    (case c11 => k_is)
    (case k11 => k_is)
    (case a12 => k_is)
    (case l12 => k_is)
    (case c12 => k_is)
    (case k12 => k_is)
    (case a13 => k_is)
    (case l13 => k_is)
    (case c13 => k_is)
    (case k13 => k_is)
    (case a14 => k_is)
    (case l14 => k_is)
    (case c14 => k_is)
    (case k14 => k_is)
    (case a15 => k_is)
    (case l15 => k_is)
    (case c15 => k_is)
    (case k15 => k_is)
    (case a16 => k_is)
    (case l16 => k_is)
    (case c16 => k_is)
    (case k16 => k_is)
    (case a17 => k_is)
    (case l17 => k_is)
    (case c17 => k_is)
    (case k17 => k_is)
    (case a18 => k_is)
    (case l18 => k_is)
    (case c18 => k_is)
    (case k18 => k_is)
    (case a19 => k_is)
    (case l19 => k_is)
    (case c19 => k_is)
    (case k19 => k_is)
    (case a20 => k_is)
    (case l20 => k_is)
    (case c20 => k_is)
    (case k20 => k_is)
    (case a21 => k_is)
    (case l21 => k_is)
    (case c21 => k_is)
    (case k21 => k_is)
    (case a22 => k_is)
    (case l22 => k_is)
    (case c22 => k_is)
    (case k22 => k_is)
    (case a23 => k_is)
    (case l23 => k_is)
    (case c23 => k_is)
    (case k23 => k_is)
    (case a24 => k_is)
    (case l24 => k_is)
    (case c24 => k_is)
    (case k24 => k_is)
    (case a25 => k_is)
    (case l25 => k_is)
    (case c25 => k_is)
    (case k25 => k_is)
    (case a26 => k_is)
    (case l26 => k_is)
    (case c26 => k_is)
    (case k26 => k_is)
    (case a27 => k_is)
    (case l27 => k_is)
    (case c27 => k_is)
    (case k27 => k_is)
    (case a28 => k_is)
    (case l28 => k_is)
    (case c28 => k_is)
    (case k28 => k_is)
    (case a29 => k_is)
    (case l29 => k_is)
    (case c29 => k_is)
    (case k29 => k_is)
    (case a30 => k_is)
    (case l30 => k_is)
    (case c30 => k_is)
    (case k30 => k_is)
    (case a31 => k_is)
    (case l31 => k_is)
    (case c31 => k_is)
    (case k31 => k_is)
    (case a32 => k_is)
    (case l32 => k_is)
    (case c32 => k_is)
    (case k32 => k_is)
    (case a33 => k_is)
    (case l33 => k_is)
    (case c33 => k_is)
    (case k33 => k_is)
    (case a34 => k_is)
    (case l34 => k_is)
    (case c34 => k_is)
    (case k34 => k_is)
    (case a35 => k_is)
    (case l35 => k_is)
    (case c35 => k_is)
    (case k35 => k_is)
    (case a36 => k_is)
    (case l36 => k_is)
    (case c36 => k_is)
    (case k36 => k_is)
    (case a37 => k_is)
    (case l37 => k_is)
    (case c37 => k_is)
    (case k37 => k_is)
    (case a38 => k_is)
    (case l38 => k_is)
    (case c38 => k_is)
    (case k38 => k_is)
    (case aB0 => k_is)
    (case aC0 => k_is)
    (case xL0 => k_is)
    (case su0 => first | k_is | kernel_rfl)
    (case sa0 => k_is)
    (case ga0 => k_is)
    (case gt0 => k_is)
    (case nf0 => k_is)
    (case iC0 => k_is)
    (case tI0 => k_is)
    (case kC0 => k_is)
    (case eC0 => k_is)
    (case eE0 => k_is)
    (case tC0 => k_is)
    (case hC0 => k_is)
    (case sC0 => first | rfl | k_is)
    (case lI0 => k_is)
    (case cI0 => k_is)
    (case lc0 => k_is)
    (case lk0 => k_is)
    (case hv0 => rfl)
    (case hf0 => first | rfl | decide +kernel)
    (case ha0 => k_is)
    (case hm0 => k_is)
    (case ki0 => first | k_is | kit_is | kernel_rfl)
    (case zsup => k_is)
    (case htop => first | rfl | decide +kernel)
    (case opq => k_is)
    (case sp0 => k_is)
    (case tk0 => k_is)
    (case gcv_DIGITS => k_is)
    (case gcv_LETTERS => k_is)
    (case gcv_LONGEST_NAME => k_is)
    (case z0 => k_is)
    (case z1 => k_is)
    (case z2 => k_is)
    (case z3 => k_is)
    (case z4 => k_is)
    (case z5 => k_is)
    (case z6 => k_is)
    (case z7 => k_is)
    (case z8 => k_is)
    (case z9 => k_is)
    (case z10 => k_is)
    (case z11 => k_is)
    (case z12 => k_is)
    (case z13 => k_is)
    (case z14 => k_is)
    (case z15 => k_is)
    (case z16 => k_is)
    (case z17 => k_is)
    (case z18 => k_is)
