import PyProof.Rows.All
import Wide.All
import OpenK.AllK
import Wide.FinOn
import PyProof.EqAt
import PyProof.EqKinds
import PyProof.TupleCall
import PyProof.ReprRoads
import HandS.Base
import HandS.Call
import HandS.List
import HandS.Dict
import PyProof.ReprBulk
import PyProof.ReprRoom
import PyProof.FitsInt
import KE.KMathG
import HandS.Gcd
import HandS.TupMul
import HandS.Style
import KE.KRevSl
import HandS.Ends
import HandS.Words
import HandS.EndBits
import HandS.ForMost
import HandS.Wide
import HandS.Conv
import HandS.IsInst
import HandS.Flow
import HandS.TupAny
import HandS.Evl
import PySem.Challenge.RW_eyeorder_k01_places_lines_and_directions
set_option Elab.async false
set_option linter.all false
set_option exponentiation.threshold 3000
set_option maxRecDepth 100000
set_option maxHeartbeats 4000000

namespace Ey
open PySem PySem.Spec PyProof.Rows L2

mutual
/-- data that stands in a heap: what repr needs to know of it -/
inductive Rdd (h : Heap) : Value → PyData → Prop
  | non : Rdd h .none .none
  | bl (b : Bool) : Rdd h (.bool b) (.bool b)
  | int (i : Int) (t : Tok) : Rdd h (.int i t) (.int i)
  | str (x : Str) (t : Tok) : Rdd h (.str x t) (.str x)
  | lst {a : Addr} {o : Obj} {vs : Array Value} {n : Nat} {xs : List PyData} : h.get? a = some o → o.cls = .type "list" → o.data = .seq vs n → RddAll h vs.toList xs → Rdd h (.ref a) (.list xs)
  | tup {a : Addr} {o : Obj} {vs : Array Value} {n : Nat} {xs : List PyData} : h.get? a = some o → o.cls = .type "tuple" → o.data = .seq vs n → RddAll h vs.toList xs → Rdd h (.ref a) (.tuple xs)
  | dic {a : Addr} {o : Obj} {es : Array DictEntry} {n : Nat} {ks : List (PyData × PyData)} : h.get? a = some o → o.cls = .type "dict" → o.data = .dict es n → (a == sysModules) = false →
      RddAll h (es.toList.map (·.key)) (ks.map (·.1)) → RddAll h (es.toList.map (·.val)) (ks.map (·.2)) → Rdd h (.ref a) (.dict ks)
inductive RddAll (h : Heap) : List Value → List PyData → Prop
  | nil : RddAll h [] []
  | cons {v : Value} {vs : List Value} {d : PyData} {ds : List PyData} : Rdd h v d → RddAll h vs ds → RddAll h (v :: vs) (d :: ds)
end

section
variable {h : Heap}
mutual
theorem Rdd.reads : ∀ {v : Value} {d : PyData}, Rdd h v d → ∃ as, Reads h v d as
  | _, _, .non => ⟨_, .none⟩
  | _, _, .bl b => ⟨_, .bool b⟩
  | _, _, .int i t => ⟨_, .int i t⟩
  | _, _, .str x t => ⟨_, .str x t⟩
  | _, _, .lst e1 e2 e3 e4 => let ⟨_, r⟩ := e4.reads; ⟨_, .list e1 e2 e3 r⟩
  | _, _, .tup e1 e2 e3 e4 => let ⟨_, r⟩ := e4.reads; ⟨_, .tuple e1 e2 e3 r⟩
  | _, _, .dic e1 e2 e3 _ e4 e5 => let ⟨_, r⟩ := e4.reads; let ⟨_, q⟩ := e5.reads; ⟨_, .dict e1 e2 e3 r q⟩
theorem RddAll.reads : ∀ {vs : List Value} {ds : List PyData}, RddAll h vs ds → ∃ as, ReadsAll h vs ds as
  | _, _, .nil => ⟨_, .nil⟩
  | _, _, .cons a b => let ⟨_, r⟩ := a.reads; let ⟨_, q⟩ := b.reads; ⟨_, .cons r q⟩
end
end

section
variable {prog : Program} {w : World} {h₀ : Heap}
mutual
theorem Rdd.k : ∀ {v : Value} {d : PyData}, Rdd h₀ v d → d.showable = true → d.shown.length ≤ sizeLine → ∃ bs, ReadAtMost h₀ d.depth bs ∧ ReprK prog w bs h₀ d.depth v d.shown
  | _, _, .non, _, _ => ⟨[], (fun _ q => nomatch q), by simp only [PyData.shown]; exact ReprK.of_is ReprIs.none [] h₀ _⟩
  | _, _, .bl b, _, _ => ⟨[], (fun _ q => nomatch q), by simp only [PyData.shown]; exact ReprK.of_is (ReprIs.bool b) [] h₀ _⟩
  | _, _, .int i t, hs, _ => ⟨[], (fun _ q => nomatch q), by simp only [PyData.shown]; exact ReprK.of_is (ReprIs.int t (by simpa [PyData.showable] using hs)) [] h₀ _⟩
  | _, _, .str x t, _, hz => ⟨[], (fun _ q => nomatch q), by simp only [PyData.shown]; exact ReprK.of_is (ReprIs.str x t (by simpa only [PyData.shown] using hz)) [] h₀ _⟩
  | _, _, .lst (a := a) (vs := vs) (xs := xs) e1 e2 e3 e4, hs, hz => by
    have z : (listText (PyData.shownAll xs)).length ≤ sizeLine := by simpa only [PyData.shown] using hz
    obtain ⟨bs, hb, hk⟩ := RddAll.k e4 (by simpa [PyData.showable] using hs) (fun t ht => Nat.le_trans (listText_mem_le ht) z)
    obtain ⟨_, r⟩ := Rdd.reads (Rdd.lst e1 e2 e3 e4)
    have na : a ∉ bs := not_mem_of_deeper r (by simp only [PyData.depth]; omega) hb
    refine ⟨a :: bs, ReadAtMost.cons r (by simp only [PyData.depth]; omega) hb, ?_⟩
    simp only [PyData.depth, PyData.shown]
    obtain ⟨l⟩ := vs
    cases l with
    | nil =>
      have e5 : RddAll h₀ [] xs := e4
      cases e5
      simp only [PyData.shownAll, listText_nil]
      exact ReprK.listEmpty e1 e2 e3
    | cons x l => exact ReprK.list e1 e2 e3 na (by simpa using hk.length_eq) (fun i y e => hk.item i y (by simpa using e))
  | _, _, .tup (a := a) (xs := xs) e1 e2 e3 e4, hs, hz => by
    have z : (tupleText (PyData.shownAll xs)).length ≤ sizeLine := by simpa only [PyData.shown] using hz
    obtain ⟨bs, hb, hk⟩ := RddAll.k e4 (by simpa [PyData.showable] using hs) (fun t ht => Nat.le_trans (tupleText_mem_le ht) z)
    obtain ⟨_, r⟩ := Rdd.reads (Rdd.tup e1 e2 e3 e4)
    have na : a ∉ bs := not_mem_of_deeper r (by simp only [PyData.depth]; omega) hb
    refine ⟨a :: bs, ReadAtMost.cons r (by simp only [PyData.depth]; omega) hb, ?_⟩
    simp only [PyData.depth, PyData.shown]
    exact ReprK.tuple e1 e2 e3 na hk
  | _, _, .dic (a := a) (es := es) (ks := ks) e1 e2 e3 e6 e4 e5, hs, hz => by
    have z : (dictText (PyData.shownKv ks)).length ≤ sizeLine := by simpa only [PyData.shown] using hz
    obtain ⟨s1, s2⟩ := PyData.showableKv_split ks (by simpa [PyData.showable] using hs)
    obtain ⟨b1, hb1, k1⟩ := RddAll.k e4 s1 (fun t ht => let ⟨p, hp, hl⟩ := PyData.shownKv_key_le ks t ht; Nat.le_trans hl (Nat.le_trans (dictText_mem_le hp) z))
    obtain ⟨b2, hb2, k2⟩ := RddAll.k e5 s2 (fun t ht => let ⟨p, hp, hl⟩ := PyData.shownKv_val_le ks t ht; Nat.le_trans hl (Nat.le_trans (dictText_mem_le hp) z))
    obtain ⟨_, r⟩ := Rdd.reads (Rdd.dic e1 e2 e3 e6 e4 e5)
    have hb : ReadAtMost h₀ (PyData.depthKv ks) (b1 ++ b2) := (hb1.mono (PyData.depthAll_keys_le ks)).append (hb2.mono (PyData.depthAll_vals_le ks))
    have na : a ∉ b1 ++ b2 := not_mem_of_deeper r (by simp only [PyData.depth]; omega) hb
    refine ⟨a :: (b1 ++ b2), ReadAtMost.cons r (by simp only [PyData.depth]; omega) hb, ?_⟩
    simp only [PyData.depth, PyData.shown, PyData.shownKv_eq]
    exact ReprK.dict e1 e2 e3 e6 na (ReprEntriesK.of_two es.toList _ _
      (k1.more_le (fun b hm => List.mem_append_left _ hm) (PyData.depthAll_keys_le ks)) (k2.more_le (fun b hm => List.mem_append_right _ hm) (PyData.depthAll_vals_le ks)))
theorem RddAll.k : ∀ {vs : List Value} {ds : List PyData}, RddAll h₀ vs ds → PyData.showableAll ds = true → (∀ t ∈ PyData.shownAll ds, t.length ≤ sizeLine) →
    ∃ bs, ReadAtMost h₀ (PyData.depthAll ds) bs ∧ ReprAllK prog w bs h₀ (PyData.depthAll ds) vs (PyData.shownAll ds)
  | _, _, .nil, _, _ => ⟨[], (fun _ q => nomatch q), by simp only [PyData.shownAll]; exact .nil⟩
  | _, _, .cons (d := d) (ds := ds) r rs, hs, hz => by
    have s2 : d.showable = true ∧ PyData.showableAll ds = true := by simpa [PyData.showableAll] using hs
    obtain ⟨b1, hb1, k1⟩ := Rdd.k r s2.1 (hz _ (by simp only [PyData.shownAll]; exact List.mem_cons_self ..))
    obtain ⟨b2, hb2, k2⟩ := RddAll.k rs s2.2 (fun t ht => hz t (by simp only [PyData.shownAll]; exact List.mem_cons_of_mem _ ht))
    refine ⟨b1 ++ b2, ?_, ?_⟩
    · simp only [PyData.depthAll]
      exact (hb1.mono (Nat.le_max_left _ _)).append (hb2.mono (Nat.le_max_right _ _))
    · simp only [PyData.depthAll, PyData.shownAll]
      exact .cons ((k1.more fun b hm => List.mem_append_left _ hm).level_le (Nat.le_max_left _ _)) (k2.more_le (fun b hm => List.mem_append_right _ hm) (Nat.le_max_right _ _))
end


theorem call_repr_any : ∀ {v : Value} {d : PyData}, Rdd h₀ v d → d.showable = true → d.shown.length ≤ sizeLine →
    ∀ (A : Around) (E : Value → Shared → Prop) (s : Shared) (Q : Value → Shared → Prop), A.guards = some [] → A.units + (d.depth + 1) < cLine → (∀ b o, h₀.get? b = some o → s.heap.get? b = some o) →
    (∀ h' u tk, (∀ b o, s.heap.get? b = some o → h'.get? b = some o) → Q (.str d.shown u) { s with heap := h', toks := tk }) → wpAny (model prog w) A (call (.builtin "repr") [v]) Q E s
  | _, _, .non, _, _, A, E, s, Q, _, _, _, hQ => by
    simp only [PyData.shown] at hQ
    exact P.repr_of_none (hQ s.heap _ _ fun _ _ e => e)
  | _, _, .bl b, _, _, A, E, s, Q, _, _, _, hQ => by
    simp only [PyData.shown] at hQ
    exact P.repr_of_bool (hQ s.heap _ _ fun _ _ e => e)
  | _, _, .int i t, hs, _, A, E, s, Q, _, _, _, hQ => by
    simp only [PyData.shown] at hQ
    exact P.repr_of_int (by simpa [PyData.showable] using hs) (hQ s.heap _ _ fun _ _ e => e)
  | _, _, .str x t, _, hz, A, E, s, Q, _, _, _, hQ => by
    simp only [PyData.shown] at hQ
    exact P.repr_of_str (hQ s.heap _ _ fun _ _ e => e) (by simpa only [PyData.shown] using hz)
  | _, _, .lst (a := a) (vs := vs) (xs := xs) e1 e2 e3 e4, hs, hz, A, E, s, Q, hg, hu, hk0, hQ => by
    have z : (listText (PyData.shownAll xs)).length ≤ sizeLine := by simpa only [PyData.shown] using hz
    obtain ⟨bs, hb, hk⟩ := RddAll.k (prog := prog) (w := w) e4 (by simpa [PyData.showable] using hs) (fun t ht => Nat.le_trans (listText_mem_le ht) z)
    obtain ⟨_, r⟩ := Rdd.reads (Rdd.lst e1 e2 e3 e4)
    have na : a ∉ bs := not_mem_of_deeper r (by simp only [PyData.depth]; omega) hb
    simp only [PyData.depth] at hu
    simp only [PyData.shown] at hQ
    refine call_repr_slot (by omega) ⟨_, hk0 _ _ e1, e2⟩ F.slot_list_repr.toG ?_
    obtain ⟨l⟩ := vs
    cases l with
    | nil =>
      have e5 : RddAll h₀ [] xs := e4
      cases e5
      simp only [PyData.shownAll, listText_nil] at hQ
      exact call_list_repr_empty ⟨_, hk0 _ _ e1, e2⟩ (hk0 _ _ e1) e3 ⟨_, _, rfl, hQ s.heap _ _ fun _ _ e => e⟩
    | cons x l =>
      exact call_list_reprK e1 e2 e3 na (by simpa using hk.length_eq) (fun i y e => hk.item i y (by simpa using e)) hg (fun b _ => Clear.nil b) (by show A.units + 1 + _ < cLine; omega) hk0 (fun h' u tk k => ⟨_, _, rfl, hQ h' u tk k⟩) z
  | _, _, .tup (a := a) (xs := xs) e1 e2 e3 e4, hs, hz, A, E, s, Q, hg, hu, hk0, hQ => by
    have z : (tupleText (PyData.shownAll xs)).length ≤ sizeLine := by simpa only [PyData.shown] using hz
    obtain ⟨bs, hb, hk⟩ := RddAll.k (prog := prog) (w := w) e4 (by simpa [PyData.showable] using hs) (fun t ht => Nat.le_trans (tupleText_mem_le ht) z)
    obtain ⟨_, r⟩ := Rdd.reads (Rdd.tup e1 e2 e3 e4)
    have na : a ∉ bs := not_mem_of_deeper r (by simp only [PyData.depth]; omega) hb
    simp only [PyData.depth] at hu
    simp only [PyData.shown] at hQ
    refine call_repr_slot (by omega) ⟨_, hk0 _ _ e1, e2⟩ F.slot_tuple_repr ?_
    exact call_tuple_reprK e1 e2 e3 na hk hg (fun b _ => Clear.nil b) (by show A.units + 1 + _ < cLine; omega) hk0 (fun h' u tk k => ⟨_, _, rfl, hQ h' u tk k⟩) z
  | _, _, .dic (a := a) (es := es) (ks := ks) e1 e2 e3 e6 e4 e5, hs, hz, A, E, s, Q, hg, hu, hk0, hQ => by
    have z : (dictText (PyData.shownKv ks)).length ≤ sizeLine := by simpa only [PyData.shown] using hz
    obtain ⟨s1, s2⟩ := PyData.showableKv_split ks (by simpa [PyData.showable] using hs)
    obtain ⟨b1, hb1, k1⟩ := RddAll.k (prog := prog) (w := w) e4 s1 (fun t ht => let ⟨p, hp, hl⟩ := PyData.shownKv_key_le ks t ht; Nat.le_trans hl (Nat.le_trans (dictText_mem_le hp) z))
    obtain ⟨b2, hb2, k2⟩ := RddAll.k (prog := prog) (w := w) e5 s2 (fun t ht => let ⟨p, hp, hl⟩ := PyData.shownKv_val_le ks t ht; Nat.le_trans hl (Nat.le_trans (dictText_mem_le hp) z))
    obtain ⟨_, r⟩ := Rdd.reads (Rdd.dic e1 e2 e3 e6 e4 e5)
    have hb : ReadAtMost h₀ (PyData.depthKv ks) (b1 ++ b2) := (hb1.mono (PyData.depthAll_keys_le ks)).append (hb2.mono (PyData.depthAll_vals_le ks))
    have na : a ∉ b1 ++ b2 := not_mem_of_deeper r (by simp only [PyData.depth]; omega) hb
    simp only [PyData.depth] at hu
    simp only [PyData.shown, PyData.shownKv_eq] at hQ
    refine call_repr_slot (by omega) ⟨_, hk0 _ _ e1, e2⟩ F.slot_dict_repr ?_
    exact call_dict_reprK e1 e2 e3 e6 na (ReprEntriesK.of_two es.toList _ _
      (k1.more_le (fun b hm => List.mem_append_left _ hm) (PyData.depthAll_keys_le ks)) (k2.more_le (fun b hm => List.mem_append_right _ hm) (PyData.depthAll_vals_le ks)))
      hg (fun b _ => Clear.nil b) (by show A.units + 1 + _ < cLine; omega) hk0 (fun h' u tk k => ⟨_, _, rfl, hQ h' u tk k⟩) (by rw [← PyData.shownKv_eq]; exact z)
end

/-! ### data over the abstract heap -/
/-- a key as data -/
def kD : Key → PyData
  | .inl i => .int i
  | .inr x => .str x
mutual
/-- data: lists and dicts at addresses of which F holds -/
inductive Dd (F : Addr → Prop) (H : Hp) : V → PyData → Prop
  | non : Dd F H .non .none
  | bl (b : Bool) : Dd F H (.bl b) (.bool b)
  | int (i : Int) : Dd F H (.int i) (.int i)
  | str (x : Str) : Dd F H (.str x) (.str x)
  | lst {a : Addr} {xs : List V} {ds : List PyData} : F a → H a = some (.lst xs) → DdAll F H xs ds → Dd F H (.ref a) (.list ds)
  | tup {a : Addr} {xs : List V} {ds : List PyData} : H a = some (.tup xs) → DdAll F H xs ds → Dd F H (.ref a) (.tuple ds)
  | dic {a : Addr} {kvs : List (Key × V)} {ds : List PyData} : F a → H a = some (.dK kvs) → DdAll F H (kvs.map (·.2)) ds → Dd F H (.ref a) (.dict ((kvs.map fun kv => kD kv.1).zip ds))
inductive DdAll (F : Addr → Prop) (H : Hp) : List V → List PyData → Prop
  | nil : DdAll F H [] []
  | cons {v : V} {vs : List V} {d : PyData} {ds : List PyData} : Dd F H v d → DdAll F H vs ds → DdAll F H (v :: vs) (d :: ds)
end
theorem DdAll.length {F : Addr → Prop} {H : Hp} : ∀ {vs : List V} {ds : List PyData}, DdAll F H vs ds → vs.length = ds.length
  | _, _, .nil => rfl
  | _, _, .cons _ r => by rw [List.length_cons, List.length_cons, DdAll.length r]
section
variable {F : Addr → Prop} {H H' : Hp}
mutual
/-- what the data's objects are, stays -/
theorem Dd.keep (k : ∀ a o, H a = some o → (F a ∨ ∃ xs, o = .tup xs) → H' a = some o) : ∀ {v : V} {d : PyData}, Dd F H v d → Dd F H' v d
  | _, _, .non => .non
  | _, _, .bl b => .bl b
  | _, _, .int i => .int i
  | _, _, .str x => .str x
  | _, _, .lst f e r => .lst f (k _ _ e (.inl f)) (DdAll.keep k r)
  | _, _, .tup e r => .tup (k _ _ e (.inr ⟨_, rfl⟩)) (DdAll.keep k r)
  | _, _, .dic f e r => .dic f (k _ _ e (.inl f)) (DdAll.keep k r)
theorem DdAll.keep (k : ∀ a o, H a = some o → (F a ∨ ∃ xs, o = .tup xs) → H' a = some o) : ∀ {vs : List V} {ds : List PyData}, DdAll F H vs ds → DdAll F H' vs ds
  | _, _, .nil => .nil
  | _, _, .cons a b => .cons (Dd.keep k a) (DdAll.keep k b)
end
mutual
theorem Dd.det : ∀ {v : V} {d e : PyData}, Dd F H v d → Dd F H v e → d = e
  | _, _, _, .non, b => by cases b; rfl
  | _, _, _, .bl _, b => by cases b; rfl
  | _, _, _, .int _, b => by cases b; rfl
  | _, _, _, .str _, b => by cases b; rfl
  | _, _, _, .lst _ e r, b => by
    cases b with
    | lst _ e2 r2 => rw [e] at e2; cases e2; rw [DdAll.det r r2]
    | tup e2 _ => rw [e] at e2; cases e2
    | dic _ e2 _ => rw [e] at e2; cases e2
  | _, _, _, .tup e r, b => by
    cases b with
    | lst _ e2 _ => rw [e] at e2; cases e2
    | tup e2 r2 => rw [e] at e2; cases e2; rw [DdAll.det r r2]
    | dic _ e2 _ => rw [e] at e2; cases e2
  | _, _, _, .dic _ e r, b => by
    cases b with
    | lst _ e2 _ => rw [e] at e2; cases e2
    | tup e2 _ => rw [e] at e2; cases e2
    | dic _ e2 r2 => rw [e] at e2; cases e2; rw [DdAll.det r r2]
theorem DdAll.det : ∀ {vs : List V} {ds es : List PyData}, DdAll F H vs ds → DdAll F H vs es → ds = es
  | _, _, _, .nil, b => by cases b; rfl
  | _, _, _, .cons a r, b => by
    cases b with
    | cons a2 r2 => rw [Dd.det a a2, DdAll.det r r2]
end
end
section
variable {X : Cx} {pins : List (Addr × Obj)} {σ : L2.St} {F : Addr → Prop} {H : Hp} {s : Shared}
theorem keys_rdd {P : Program} {w : World} : ∀ {es : List DictEntry} {kvs : List (Key × Value)}, Pairs (mixKind P w) es kvs → RddAll s.heap (es.map (·.key)) (kvs.map fun kv => kD kv.1)
  | _, _, .nil => .nil
  | _, _, .cons (e := en) (kv := kv) i _ r => by
    refine .cons ?_ (keys_rdd r)
    show Rdd _ en.key (kD kv.1)
    rcases keyIs_shape i with ⟨z, t, e1, e2⟩ | ⟨z, t, e1, e2⟩
    · rw [e1, e2]; exact .int z t
    · rw [e1, e2]; exact .str z t
theorem vals_of_pairs {P : Program} {w : World} : ∀ {es : List DictEntry} {kvs : List (Key × Value)}, Pairs (mixKind P w) es kvs → es.map (·.val) = kvs.map (·.2)
  | _, _, .nil => rfl
  | _, _, .cons _ e r => by rw [List.map_cons, List.map_cons, e, vals_of_pairs r]
theorem kv_keys : ∀ {kvs : List (Key × V)} {ws : List (Key × Value)}, KV kvs ws → (ws.map fun kv => kD kv.1) = kvs.map fun kv => kD kv.1
  | _, _, .nil => rfl
  | _, _, .cons e r => by rw [List.map_cons, List.map_cons, e.1, kv_keys r]
theorem kv_vals : ∀ {kvs : List (Key × V)} {ws : List (Key × Value)}, KV kvs ws → Vals (kvs.map (·.2)) (ws.map (·.2))
  | _, _, .nil => .nil
  | _, _, .cons e r => .cons e.2 (kv_vals r)
mutual
theorem Dd.rdd (I : Inv X pins σ H s) : ∀ {v : V} {d : PyData}, Dd F H v d → ∀ {u : Value}, RelV v u → Rdd s.heap u d
  | _, _, .non, _, r => by cases r; exact .non
  | _, _, .bl b, _, r => by cases r; exact .bl b
  | _, _, .int i, _, r => by obtain ⟨t, rfl⟩ := r; exact .int i t
  | _, _, .str x, _, r => by obtain ⟨t, rfl⟩ := r; exact .str x t
  | _, _, .lst _ e q, _, r => by
    cases r
    obtain ⟨_, its, n, rv, ho⟩ := I.hok _ _ e
    exact .lst ho rfl rfl (DdAll.rdd I q (by simpa using rv))
  | _, _, .tup e q, _, r => by
    cases r
    obtain ⟨_, its, rv, o, ho, hc, n, hd⟩ := I.hok _ _ e
    exact .tup ho hc hd (DdAll.rdd I q (by simpa using rv))
  | _, _, .dic (a := a) (kvs := kvs) (ds := ds) _ e q, _, r => by
    cases r
    obtain ⟨_, hy, ws, rv, o, es, ep, ho, hc, hd, _, hp, _⟩ := (show ObjOk X.prog X.w H s.heap a (.dK kvs) from I.hok _ _ e)
    have hl : (kvs.map fun kv => kD kv.1).length = ds.length := by rw [List.length_map, ← q.length, List.length_map]
    refine .dic ho hc.1 hd hy ?_ ?_
    · rw [List.map_fst_zip (Nat.le_of_eq hl), ← kv_keys rv]
      exact keys_rdd hp
    · rw [List.map_snd_zip (Nat.le_of_eq hl.symm), vals_of_pairs hp]
      exact DdAll.rdd I q (kv_vals rv)
theorem DdAll.rdd (I : Inv X pins σ H s) : ∀ {vs : List V} {ds : List PyData}, DdAll F H vs ds → ∀ {us : List Value}, Vals vs us → RddAll s.heap us ds
  | _, _, .nil, _, r => by cases r; exact .nil
  | _, _, .cons a b, _, r => by
    cases r with
    | cons r1 r2 => exact .cons (Dd.rdd I a r1) (DdAll.rdd I b r2)
end
end
/-- data of bounded size -/
structure Sz (n m : Nat) (d : PyData) : Prop where
  sh : d.showable = true
  ls : d.leavesShort 2000 = true
  bk : d.bulk ≤ n
  dp : d.depth ≤ m
theorem Sz.mono {n m n' m' : Nat} {d : PyData} (z : Sz n m d) (h1 : n ≤ n') (h2 : m ≤ m') : Sz n' m' d := ⟨z.sh, z.ls, Nat.le_trans z.bk h1, Nat.le_trans z.dp h2⟩
theorem sz_none : Sz 0 0 .none := ⟨rfl, by simp [PyData.leavesShort], by simp [PyData.bulk], by simp [PyData.depth]⟩
theorem sz_bool (b : Bool) : Sz 0 0 (.bool b) := ⟨rfl, by simp [PyData.leavesShort], by simp [PyData.bulk], by simp [PyData.depth]⟩
theorem sz_int {i : Int} (h : i.natAbs < 2 ^ 250) : Sz 0 0 (.int i) := by
  have g : i.natAbs.log2 < 1920 := log2_small (Nat.lt_of_lt_of_le h (Nat.pow_le_pow_right (by decide) (by decide)))
  refine ⟨by simp [PyData.showable, g], ?_, by simp [PyData.bulk], by simp [PyData.depth]⟩
  have e := int_text_length_le (by decide : 0 < 1920) g
  rw [← PySem.ofString_length] at e
  unfold PyData.leavesShort
  exact decide_eq_true (show (Str.ofString (toString i)).length ≤ 2000 from Nat.le_trans e (by decide))
theorem sz_str {x : Str} {n : Nat} (h : (x.cps.toList.all fun c => decide (c < 16 ^ 8)) = true) (hn : x.cps.size ≤ n) : Sz n 0 (.str x) :=
  ⟨by simp [PyData.showable], by simpa only [PyData.leavesShort] using h, by simpa only [PyData.bulk] using hn, by simp [PyData.depth]⟩
/-- all of a list -/
structure SzA (n m : Nat) (ds : List PyData) : Prop where
  sh : PyData.showableAll ds = true
  ls : PyData.leavesShortAll 2000 ds = true
  bk : PyData.bulkAll ds ≤ n
  dp : PyData.depthAll ds ≤ m
theorem sza_nil {m : Nat} : SzA 0 m [] := ⟨by simp [PyData.showableAll], by simp [PyData.leavesShortAll], by simp [PyData.bulkAll], by simp [PyData.depthAll]⟩
theorem sza_cons {n n' m : Nat} {d : PyData} {ds : List PyData} (a : Sz n m d) (b : SzA n' m ds) : SzA (n + 1 + n') m (d :: ds) :=
  ⟨by simp [PyData.showableAll, a.sh, b.sh], by simp [PyData.leavesShortAll, a.ls, b.ls], by have h1 := a.bk; have h2 := b.bk; simp only [PyData.bulkAll]; omega, by have h1 := a.dp; have h2 := b.dp; simp only [PyData.depthAll]; omega⟩
theorem SzA.mono {n m n' m' : Nat} {d : List PyData} (z : SzA n m d) (h1 : n ≤ n') (h2 : m ≤ m') : SzA n' m' d := ⟨z.sh, z.ls, Nat.le_trans z.bk h1, Nat.le_trans z.dp h2⟩
theorem sza_of {n m : Nat} : ∀ {ds : List PyData}, (∀ d ∈ ds, Sz n m d) → SzA ((n + 1) * ds.length) m ds
  | [], _ => sza_nil.mono (Nat.zero_le _) (Nat.le_refl _)
  | d :: ds, h => (sza_cons (h d List.mem_cons_self) (sza_of fun e he => h e (List.mem_cons_of_mem _ he))).mono (by rw [List.length_cons, Nat.mul_succ]; omega) (Nat.le_refl _)
theorem SzA.list {n m : Nat} {ds : List PyData} (a : SzA n m ds) : Sz n (m + 1) (.list ds) :=
  ⟨by simpa only [PyData.showable] using a.sh, by simpa only [PyData.leavesShort] using a.ls, by simpa only [PyData.bulk] using a.bk, by have := a.dp; simp only [PyData.depth]; omega⟩
theorem SzA.tuple {n m : Nat} {ds : List PyData} (a : SzA n m ds) : Sz n (m + 1) (.tuple ds) :=
  ⟨by simpa only [PyData.showable] using a.sh, by simpa only [PyData.leavesShort] using a.ls, by simpa only [PyData.bulk] using a.bk, by have := a.dp; simp only [PyData.depth]; omega⟩
theorem Sz.fits {d : PyData} (z : Sz 7000 50 d) : d.shown.length ≤ sizeLine := by
  have h := PyData.shown_le_bulk 2000 (by decide) d z.ls
  have b := z.bk
  have e : sizeLine = 16777216 := by decide
  omega
section
variable {X : Cx}
def rRepr : List V → Hp → VK → Prop := fun xs H Q => ∃ (v : V) (F : Addr → Prop) (d : PyData), xs = [v] ∧ Dd F H v d ∧ Sz 7000 50 d ∧ Q (.str d.shown) H
theorem cr_repr (hg : X.A.guards = some []) (hu : X.A.units + 64 < cLine) : CallR X (.builtin "repr") rRepr := by
  intro pins s σ H xs us Q I r h
  obtain ⟨v, F, d, rfl, hd, f, q⟩ := h
  obtain ⟨u, rfl, ru⟩ := Vals.one r
  refine call_repr_any (hd.rdd I ru) f.sh f.fits X.A _ s _ hg (by have := f.dp; omega) (fun _ _ e => e) fun h' t tk k => ?_
  exact ⟨.str d.shown, H, I.kept k, ⟨t, rfl⟩, q⟩
end
end Ey
/-! math.gcd of three -/
namespace Ey
open PySem PySem.Spec PyProof.Rows L2
open PySem.W in
theorem args_gcd3 (a b c : Value) : argsOk "math.gcd" ⟨[a, b, c], []⟩ := by unfold argsOk; kernel_rfl
open PySem.Calls in
theorem run_gcd3 (a b c : Int) (t u v : Tok) : Gives (Builtin.«math.gcd» ⟨[.int a t, .int b u, .int c v], []⟩) (.int ((((Nat.gcd 0 a.natAbs).gcd b.natAbs).gcd c.natAbs : Nat) : Int)) :=
  .of_wp fun M A E s Q h => by obtain ⟨hp, g, d, tk, os⟩ := s; wp_walk; exact ⟨_, rfl, h⟩
theorem vals_int3 {i j k : Int} {us : List Value} (r : Vals [V.int i, V.int j, V.int k] us) : ∃ t u v, us = [Value.int i t, Value.int j u, Value.int k v] := by
  cases r with
  | cons a r =>
    obtain ⟨t, rfl⟩ := a
    obtain ⟨u, v, rfl⟩ := Vals.int2 r
    exact ⟨t, u, v, rfl⟩
section
variable {X : Cx}
def rGcd3 : List V → Hp → VK → Prop := fun vs H Q => ∃ a b c : Int, vs = [.int a, .int b, .int c] ∧ Q (.int ((Nat.gcd (Nat.gcd a.natAbs b.natAbs) c.natAbs : Nat) : Int)) H
theorem cr_gcd3 : CallR X (.builtin "math.gcd") rGcd3 := by
  intro pins s σ H vs us Q I r h
  obtain ⟨a, b, c, rfl, q⟩ := h
  obtain ⟨t, u, v, rfl⟩ := vals_int3 r
  have g := run_gcd3 a b c t u v
  rw [Nat.gcd_zero_left] at g
  exact PySem.call_function_meets PySem.W.MGF.kind_gcd PySem.W.MGF.plain_gcd PySem.W.MGF.entry_gcd (args_gcd3 _ _ _) g.meets ⟨.int _, H, I.tok _, ⟨_, rfl⟩, q⟩
end
end Ey
/-! (0,) * k, k from 1 on -/
namespace Ey
open PySem PySem.Spec PyProof.Rows L2
theorem tuple_mul1 (l : Addr) (items : Array Value) (n : Nat) (dd : Option Addr) (sl : Array (Option Value)) (u : Tok) :
    Meets (Builtin.«tuple.__mul__» ⟨[.ref l, .int 1 u], []⟩) (fun _ R s => s.heap.get? l = some { cls := .type "tuple", dict := dd, data := .seq items n, slots := sl } ∧ R (.ok (.ret (Value.ref l))) s) :=
  .of_wp fun prog w A R s h => by
    obtain ⟨hp, g, d, tk, os⟩ := s
    obtain ⟨hl, h⟩ := h
    have f1 := AutoSeq1.idx_int
    wp_walk using wpAny_loadPart' hl
    exact ⟨_, rfl, h⟩
def rRepT1 (K : PySem.W.Frag) : R2 := fun x y H Q => ∃ l xs, x = .ref l ∧ y = .int 1 ∧ SqT K H l xs ∧ Q (.ref l) H
section
variable {X : Cx}
theorem op_repT1 : OpR X (binaryOp .Mult) (rRepT1 X.K) := by
  intro pins s σ H x y v u Q I rx ry h
  obtain ⟨l, xs, rfl, rfl, hT, q⟩ := h
  cases rx
  obtain ⟨t, rfl⟩ := ry
  obtain ⟨its, r, ⟨⟨cls, dd, data, sl⟩, ho, hc, n, hd⟩, hs⟩ := I.tuple hT
  simp only at hc hd
  subst hc hd
  exact wpAny_binaryOp_repeat_ref (T := "tuple") (U := "int") (by decide) ⟨_, ho, rfl⟩ (fun s' => typeIs_int s' 1 t) noFill_tuple_mul F.fills_int_mul F.slot_int_rmul repeat_tuple F.slot_int_index.lookup
    (call_meets F.slot_int_rmul (typeIs_int s 1 t) F.entry_int_rmul (F.args_int_rmul_2 _ _) (int_rmul_tuple 1 t l its.toArray n dd sl)
      ⟨ho, rfl, ⟨_, ho, rfl⟩, call_meets F.slot_tuple_mul ⟨_, ho, rfl⟩ F.entry_tuple_mul (F.args_tuple_mul_2 _ _) (tuple_mul1 l its.toArray n dd sl t) ⟨ho, ⟨.ref l, H, I, rfl, q⟩⟩⟩)
/-- (0,) * k -/
def rRep0 (K : PySem.W.Frag) : R2 := fun x y H Q => ∃ (l : Addr) (k : Nat), x = .ref l ∧ y = .int k ∧ H l = some (.tup [.int 0]) ∧ 1 ≤ k ∧ k ≤ 1000 ∧
  ∀ p H', (∀ a o, H a = some o → H' a = some o) → H' p = some (.tup ((List.replicate k (0 : Int)).map V.int)) → Q (.ref p) H'
theorem rep_flat (k : Nat) : (List.replicate k [V.int 0]).flatten = (List.replicate k (0 : Int)).map V.int := by
  induction k with
  | zero => rfl
  | succ k ih => rw [List.replicate_succ, List.replicate_succ, List.flatten_cons, ih] <;> rfl
theorem op_rep0 : OpR X (binaryOp .Mult) (rRep0 X.K) := by
  intro pins s σ H x y v u Q I rx ry h
  obtain ⟨l, k, rfl, rfl, hT, h1, h2, q⟩ := h
  by_cases hk : k = 1
  · subst hk
    exact op_repT1 pins s σ H _ _ v u Q I rx ry ⟨l, _, rfl, rfl, SqT.of hT, q l H (fun _ _ e => e) hT⟩
  · refine op_repT pins s σ H _ _ v u Q I rx ry ⟨l, k, _, rfl, rfl, SqT.of hT, (fun z => nomatch z), by omega, by omega, by decide, fun p np => ?_⟩
    refine q p _ (fun a o e => ?_) ?_
    · rw [upd_ne (ne_of_none e np)]
      exact e
    · rw [upd_same, Int.toNat_natCast, rep_flat]
end
end Ey
/-! t[::-1], t a tuple -/
namespace Ey
open PySem PySem.Spec PyProof.Rows L2
theorem rev_pick (xs : Array Value) : ((List.range xs.size).filterMap fun (k : Nat) => xs[(((xs.size : Nat) : Int) - 1 + (k : Int) * (-1)).toNat]?).toArray = xs.toList.reverse.toArray := by
  have e : ((List.range xs.size).filterMap fun (k : Nat) => xs[(((xs.size : Nat) : Int) - 1 + (k : Int) * (-1)).toNat]?) = ((List.range xs.size).map fun k => xs.size - 1 - k).filterMap (xs[·]?) := by
    rw [List.filterMap_map]
    have go : ∀ l : List Nat, (∀ k ∈ l, k < xs.size) → (l.filterMap fun (k : Nat) => xs[(((xs.size : Nat) : Int) - 1 + (k : Int) * (-1)).toNat]?) = l.filterMap ((xs[·]?) ∘ fun k => xs.size - 1 - k) := by
      intro l
      induction l with
      | nil => intro _; rfl
      | cons k l ih =>
        intro h
        have hk := h k List.mem_cons_self
        have e1 : (((xs.size : Nat) : Int) - 1 + (k : Int) * (-1)).toNat = xs.size - 1 - k := by omega
        rw [List.filterMap_cons, List.filterMap_cons, ih fun j hj => h j (List.mem_cons_of_mem _ hj)]
        rw [e1, Function.comp_apply]
    exact go _ fun k hk => List.mem_range.mp hk
  rw [e, PySem.W.krv_range, List.filterMap_reverse, PySem.W.krv_all]
theorem rev_places (n : Nat) : Builtin.Slice.slicePlaces ((n : Int) - 1) (-1) (-1) = n := by
  unfold Builtin.Slice.slicePlaces
  rw [if_neg (by decide)]
  split
  · rw [show (- -1 : Int) = 1 by decide, Int.ediv_one]
    omega
  · omega
section
variable {prog : Program} {w : World} {A : Around} {E : Value → Shared → Prop} {s : Shared}
theorem applied_rev {sl : Addr} {vl vu vs : Value} {n : Nat} {Q : Int × Int × Nat → Shared → Prop} (hs : ∃ o, s.heap.get? sl = some o ∧ o.cls = .type "slice" ∧ o.data = .fields #[vl, vu, vs]) (pl : IsPart vl none) (pu : IsPart vu none) (ps : IsPart vs (some (-1)))
    (h : Q ((n : Int) - 1, -1, n) s) : wpAny (model prog w) A (Builtin.Slice.sliceApplied (.ref sl) (pure (n : Int))) Q E s := by
  obtain ⟨os, hos, hcs, hds⟩ := hs
  unfold Builtin.Slice.sliceApplied Builtin.Slice.sliceFields
  refine wpAny_bind (wpAny_bind (wpAny_field hos hds (x := vl) rfl (wpAny_bind (wpAny_field hos hds (x := vu) rfl (wpAny_bind (wpAny_field hos hds (x := vs) rfl (wpAny_pure ?_)))))))
  refine wpAny_bind (HT.slicePart_ ps ?_)
  show wpAny _ _ (if ((-1 : Int) == 0) = true then _ else _) _ _ s
  rw [if_neg (by decide)]
  refine wpAny_bind (HT.slicePart_ pl (wpAny_bind (HT.slicePart_ pu (wpAny_bind (wpAny_pure ?_)))))
  show wpAny _ _ (match Builtin.Slice.sliceAdjust none none (-1) (n : Int) with | (lo, hi) => pure (lo, (-1 : Int), Builtin.Slice.slicePlaces lo hi (-1))) _ _ s
  show wpAny _ _ (pure ((n : Int) - 1, (-1 : Int), Builtin.Slice.slicePlaces ((n : Int) - 1) (-1) (-1))) _ _ s
  rw [rev_places]
  exact wpAny_pure h
theorem getItem_tuple_rev {t sl : Addr} {items : Array Value} {vl vu vs : Value} {Q : Value → Shared → Prop} (ht : IsTup s.heap t items) (hs : ∃ o, s.heap.get? sl = some o ∧ o.cls = .type "slice" ∧ o.data = .fields #[vl, vu, vs]) (pl : IsPart vl none) (pu : IsPart vu none) (ps : IsPart vs (some (-1)))
    (h : Q (.ref s.heap.objs.size) { s with heap := s.heap.push { cls := .type "tuple", data := .seq items.toList.reverse.toArray } }) (hsz : items.size ≤ sizeLine) : wpAny (model prog w) A (getItem (.ref t) (.ref sl)) Q E s := by
  have htake : sizeOk (.seq items.toList.reverse.toArray) := by
    show items.toList.reverse.toArray.size ≤ sizeLine
    rw [List.size_toArray, List.length_reverse, Array.length_toList]
    exact hsz
  obtain ⟨os, hos, hcs, hds⟩ := id hs
  have hTs : s.TypeIs (.ref sl) "slice" := ⟨os, hos, hcs⟩
  unfold getItem
  try with_reducible refine wpAny_holding ?_
  first | refine wpAny_bind (wpAny_pure ?_) | skip
  refine wpAny_bind (wpAny_sequenceKey ht.typeIs (by decide) ?_)
  refine wpAny_bind (wpAny_callSpecial?_slot (name := Str.ofString "__getitem__") ht.typeIs PyProof.Rows.slot_tuple_getitem
    (wpAny_call_entry PyProof.Rows.slot_tuple_getitem ht.typeIs PyProof.Rows.entry_tuple_getitem ?_ (PyProof.Rows.args_tuple_getitem _ _)))
  show wpAny _ _ (Builtin.Tuple.tupleItemsOf (.ref t) >>= _) _ _ s
  refine wpAny_bind (tupleItemsOf_ ht ?_)
  refine wpAny_bind (wpAny_typeOf hTs ?_)
  rw [if_pos (by decide)]
  refine wpAny_bind (applied_rev hs pl pu ps ?_)
  have hno : ¬ ((((items.size : Nat) : Int) - 1 == 0 && (-1 : Int) == 1 && items.size == items.size) = true) := by
    rw [show ((-1 : Int) == 1) = false by decide, Bool.and_false, Bool.false_and]
    exact Bool.false_ne_true
  show wpAny _ _ (if (((items.size : Nat) : Int) - 1 == 0 && (-1 : Int) == 1 && items.size == items.size) = true then _ else _) _ _ s
  rw [if_neg hno, rev_pick]
  exact wpAny_bind (m := Builtin.Tuple.tupleExact _) (wpAny_newObj_type (wpAny_pure ⟨_, rfl, wpAny_pure h⟩) htake)
end
section
variable {X : Cx}
def tRevT (K : PySem.W.Frag) (te : TE) : TE := fun σ H Q => te σ H fun x H1 => ∃ a xs, x = .ref a ∧ SqT K H1 a xs ∧ ∀ p, H1 p = none → Q (.ref p) (upd H1 p (.tup xs.reverse))
theorem pe_revT {e : Expr} {te : TE} {k : Nat} {p1 p2 p3 pos : Pos} (he : PE X e te) : PE X (.Subscript e (.Slice none none (some (.UnaryOp .USub (.Constant (.int 1) k p1) p2)) p3) pos) (tRevT X.K te) := by
  refine ⟨fun pins s σ H Q I h => ?_⟩
  refine Subscript_ (thn (he.run pins s σ H _ I h) fun v s1 ⟨x, H1, I1, r1, q1⟩ => ?_)
  obtain ⟨a, xs, ex, hx, q⟩ := q1
  subst ex
  cases r1
  have hst : PO X (some (.UnaryOp .USub (.Constant (.int 1) k p1) p2)) (tPart (tUn (rU fun i => .int (-i)) (tC (.int 1)))) := po_some (pe_un un_neg pe_int)
  refine wpAny_Slice (thn (po_none.run pins s1 σ H1 (fun o H2 => o = none ∧ H2 = H1) I1 ⟨rfl, rfl⟩) fun vl s2 ⟨l, H2, I2, pl, el, e2⟩ => ?_)
  subst el e2
  refine thn (po_none.run pins s2 σ H2 (fun o H3 => o = none ∧ H3 = H2) I2 ⟨rfl, rfl⟩) fun vu s3 ⟨u, H3, I3, pu, eu, e3⟩ => ?_
  subst eu e3
  refine thn (hst.run pins s3 σ H3 (fun o H4 => o = some (-1) ∧ H4 = H3) I3 ⟨1, rfl, -1, rfl, rfl, rfl⟩) fun vs s4 ⟨o, H4, I4, ps, eo, e4⟩ => ?_
  subst eo e4
  have I5 : Inv X pins σ H4 { s4 with heap := s4.heap.push { cls := .type "slice", data := .fields #[vl, vu, vs] } } := I4.kept (t' := s4.toks) fun b ob q => Heap.get?_push_of_some _ q
  obtain ⟨its, r, ht, hz⟩ := I5.tuple hx
  have hlen := r.length
  show wpAny (model X.prog X.w) X.A (subscriptTail e (.Slice none none (some (.UnaryOp .USub (.Constant (.int 1) k p1) p2)) p3) (.ref a) (.ref s4.heap.objs.size)) (EP X pins σ Q) X.xe { s4 with heap := s4.heap.push { cls := .type "slice", data := .fields #[vl, vu, vs] } }
  refine tail_any (ops := [.ref a, .ref s4.heap.objs.size]) ht.typeIs (PyProof.Rows.slot_tuple_getitem.lookup) ?_ (by with_unfolding_all rfl)
  refine getItem_tuple_rev ht ⟨_, Heap.get?_push_size _ rfl, rfl, rfl⟩ pl pu ps ?_ (by rw [List.size_toArray]; omega)
  refine ⟨.ref _, _, I5.laid (t' := s4.toks) (o := .tup xs.reverse) (fun b ob q => Heap.get?_push_of_some _ q) (Nat.le_refl _) ?_, rfl, q _ (I5.hok.fresh (Nat.le_refl _))⟩
  exact ⟨by rw [List.length_reverse]; exact hz, _, r.reverse, IsTup.new _ _⟩
end
end Ey
/-! the end of a row whose law asks what runs around it (repr does) -/
namespace Ey
open PySem PySem.Spec PyProof.Rows L2
/-- fn_of, where it is called from A alone -/
theorem fn_at {CX : CXT} {P : Program} {w : World} {K : PySem.W.Frag} {mg : Str → Option Value} {base : Heap} {A : Around} {k : Nat} {f : Addr} {x qual : Str} {st : Stmt} {fd : FuncData} {N ps : List Str} (F : Fun K x qual st f fd) (S : FnScope N ps (defScope st)) (hr : Room (k + 1) A)
    {outer : List Env} {s : Shared} {H : Hp} {args : Args} {us : List Value} {vs : List V} {Q : VK} {E : XK} (hl : vs.length = ps.length) (e0 : Env0 P w K mg base A outer s H) (hb : BindsTo s fd args (ps.zip us)) (r : Vals vs us)
    (body : ∀ cdv : Value, ∃ t, PSs (cxOf CX P w K mg base N qual (defScope st) f cdv A outer s H E).nox (defBody st) t ∧ t { nx := fun _ H' => Q .non H', rt := Q } (start N vs) H) : codeAny (model P w) A (.call (.ref f) args) (CR CX outer P w H s Q E) s := by
  obtain ⟨oc, od, kV, doc, pm, an, cdv, ct, osl, rfl, lk, hcd⟩ := F.ex
  have hK : K.In s.heap := e0.mod.kin.keeps fun b o e => (e0.bs b o e).1
  have hlim : s.heap.NoLimit := e0.mod.nolimit.keeps fun b o e => (e0.bs b o e).1
  have hpar : ∀ y ∈ ps.zip us, (defScope st).names.lookup y.1 = some .local ∨ ((defScope st).names.lookup y.1 = some .cell ∧ ((cellsFrom (s.heap.objs.size + 1) (defScope st).names []).lookup y.1).isSome = true) := by
    rintro ⟨n, v⟩ hy
    rcases S.par n (List.of_mem_zip hy).1 with q | q
    · exact Or.inl q
    · exact Or.inr ⟨q, PySem.W.cellsFrom_some _ _ _ (Or.inl q)⟩
  refine codeAny_call_function hr.depth (hK _ _ lk) rfl S.co S.gen rfl (PySem.W.codeRec_of hK hcd) (hb _ _ _ _ ?_)
  refine wpAny_newFunctionEnv_cells S.kind hpar fun env he s1 y => ?_
  subst he
  refine ⟨hlim.keeps y.toInCall.keep, codeAny_func ?_⟩
  obtain ⟨t, ht, hq⟩ := body cdv
  have I := inv_start (CX := CX) (E := E) S hr.hd e0 hl r y
  refine wpAny_mono (ht.nox.run [] s1 (start N vs) H _ I hq) (fun fl s' hs => ?_) fun e s' hs => hs
  have done : ∀ {σ' : L2.St} {H' : Hp} {v : V} {u : Value}, Inv (cxOf CX P w K mg base N qual (defScope st) f cdv A outer s H E) [] σ' H' s' → RelV v u → Q v H' → CE outer P w H s Q u s' :=
    fun {σ' H' v u} J rv q => ⟨v, H', J.os, J.bare, J.base, J.hok, rv, q⟩
  cases fl with
  | ret u =>
    obtain ⟨v, σ', H', J, rv, q⟩ := hs
    exact done J rv q
  | next =>
    obtain ⟨σ', H', J, q⟩ := hs
    exact done (v := V.non) (u := Value.none) J rfl q
  | brk =>
    obtain ⟨_, _, _, q⟩ := hs
    exact q.elim
  | cont =>
    obtain ⟨_, _, _, q⟩ := hs
    exact q.elim

/-- what is to be shown of law: called as the row calls it, it answers True -/
def LawOk (P : Program) (w : World) (K : PySem.W.Frag) (mg : Str → Option Value) (base : Heap) (fa : Addr) : Prop :=
  ∀ (s : Shared) (H : Hp) (a : Addr) (ns : List Int), Env0 P w K mg base callerA [] s H → SqL K H a (ns.map V.int) → ns.length ≤ 63 →
    codeAny (model P w) callerA (.call (.ref fa) ⟨[.ref a], []⟩) (CR CX0 [] P w H s (fun v _ => v = .bl true) E0) s
theorem law_go {P : Program} {w : World} {K : PySem.W.Frag} {mg mb : Str → Option Value} {fa a : Addr} {s₁ : Shared} {vs : List Value} {ns : List Int}
    (KX : K.In s₁.heap) (hns : s₁.heap.Ns mainGlobals mg) (hb : s₁.heap.Ns builtinsNs mb) (hbb : ∀ x : Str, x ≠ "__name__" → mb x = bootBuiltins x) (hlim : s₁.heap.NoLimit) (hg : s₁.gens = #[])
    (ha : s₁.heap.get? a = some { cls := .type "list", data := .seq vs.toArray }) (hi : IntsAre vs ns) (hl : ns.length ≤ 63)
    (F : ∀ base : Heap, K.In base → base.Ns mainGlobals mg → LawOk P w K mg base fa) :
    codeAny (model P w) callerA (.call (.ref fa) ⟨[.ref a], []⟩) (fun r s' => r = .ok (.ret (.bool true)) ∧ OldK s₁.heap s'.heap ∧ s'.os = s₁.os ∧ AllBare s'.gens) s₁ := by
  have rv := vals_ints hi
  have lenV := hi.length
  have hsz : ns.length ≤ sizeLine := Nat.le_trans hl (by decide)
  have core : ∀ H : Hp, Only H → SqL K H a (ns.map V.int) → HOk P w H s₁.heap → (∀ b, H b ≠ none → b = a) → (H a ≠ none → K.lookup a = none) →
      codeAny (model P w) callerA (.call (.ref fa) ⟨[.ref a], []⟩) (fun r s' => r = .ok (.ret (.bool true)) ∧ OldK s₁.heap s'.heap ∧ s'.os = s₁.os ∧ AllBare s'.gens) s₁ := by
    intro H only hS hok only_a hKa
    have out : ∀ {b : Addr} {o : Obj} {es : Array DictEntry} {ep : Nat}, s₁.heap.get? b = some o → o.data = .dict es ep → H b = none := by
      intro b o es ep e d
      cases q : H b with
      | none => rfl
      | some u =>
        obtain rfl : b = a := only_a b (by rw [q]; exact fun z => nomatch z)
        rw [ha] at e
        cases e
        have z : Data.seq vs.toArray _ = Data.dict es ep := d
        cases z
    have ns_of : ∀ {b : Addr} {m : Str → Option Value}, s₁.heap.Ns b m → (hidT s₁.heap H).Ns b m := fun {b m} ⟨o, es, ep, e, d, r⟩ => ⟨o, es, ep, hidT_get e (out e d), d, r⟩
    have kin : K.In (hidT s₁.heap H) := by
      intro b o e
      refine hidT_get (KX b o e) ?_
      cases q : H b with
      | none => rfl
      | some u =>
        obtain rfl : b = a := only_a b (by rw [q]; exact fun z => nomatch z)
        rw [hKa (by rw [q]; exact fun z => nomatch z)] at e
        cases e
    have md : Mod K mg (hidT s₁.heap H) := ⟨kin, ns_of hns, ⟨mb, ns_of hb, hbb⟩, by obtain ⟨mc, z1, z2⟩ := hlim; exact ⟨mc, ns_of z1, z2⟩⟩
    have e0 : Env0 P w K mg (hidT s₁.heap H) callerA [] s₁ H :=
      ⟨rfl, md, fun b o e => of_hidT e, Nat.le_of_eq (hidT_size _ _), trivial, fun b hm => absurd (show b ∈ ([] : List Addr) from hm) (by simp), hok, .of_eq hg⟩
    refine codeAny_mono (F _ kin (ns_of hns) s₁ H a ns e0 hS hl) fun r s' h => ?_
    cases r with
    | error e => exact (show False from h).elim
    | ok fl =>
      cases fl with
      | next => exact (show False from h).elim
      | brk => exact (show False from h).elim
      | cont => exact (show False from h).elim
      | ret u =>
        obtain ⟨v, H', os, bare, un, hok', r', q⟩ := h
        obtain rfl : v = .bl true := q
        obtain rfl : u = Value.bool true := r'
        refine ⟨rfl, OldK.of_keep fun b o e => ?_, os, bare⟩
        cases q : H b with
        | none => exact un.keep b o e q (fun z => absurd (show b ∈ ([] : List Addr) from z) (by simp)) (by simp)
        | some u =>
          rcases only b with z | ⟨ob, xs, z⟩
          · rw [q] at z
            cases z
          · obtain ⟨e1, _⟩ := hok b _ z
            obtain ⟨e2, _⟩ := hok' b _ (un.frzs b ob _ z)
            rw [e] at e1
            cases e1
            exact e2
  cases hk : K.lookup a with
  | some o =>
    have e := KX a o hk
    rw [ha] at e
    cases e
    exact core (fun _ => none) (fun _ => Or.inl rfl) (Or.inr ⟨_, vs.toArray, _, hk, rfl, rfl, rfl, by rw [List.size_toArray, lenV]; exact hsz, by simpa using rv⟩)
      (fun b u z => by cases (show (none : Option HO) = some u from z)) (fun b z => absurd rfl z) fun z => absurd rfl z
  | none =>
    have at_a : (fun b => if b = a then some (HO.frz { cls := .type "list", data := .seq vs.toArray } (.lst (ns.map V.int))) else none : Hp) a = some (.frz { cls := .type "list", data := .seq vs.toArray } (.lst (ns.map V.int))) := if_pos rfl
    refine core (fun b => if b = a then some (.frz { cls := .type "list", data := .seq vs.toArray } (.lst (ns.map V.int))) else none) (fun b => ?_) (Or.inl (Or.inr ⟨_, at_a⟩)) (fun b u z => ?_) (fun b z => ?_) fun _ => hk
    · by_cases hb : b = a
      · exact Or.inr ⟨_, _, if_pos hb⟩
      · exact Or.inl (if_neg hb)
    · by_cases hb : b = a
      · subst hb
        cases (if_pos rfl).symm.trans z
        exact ⟨ha, by rw [List.length_map]; exact hsz, vs, _, rv, ha⟩
      · cases (if_neg hb).symm.trans z
    · exact Decidable.byContradiction fun hb => z (if_neg hb)
/-- walk_of, by LawOk -/
theorem walk_at {l : PySem.W.OpenLaw} {q : Program} {loose : List Str} {XP : (Str → Option Value) → Heap → Prop} {YP : World → Heap → Prop} {d : DefRec} {K : Params → PySem.W.Frag}
    (hn : l.most = some 63) (hdf : d.params.defaults = []) (hY : ∀ (w : World) (h : Heap), YP w h → (K w.params).In h)
    (F : ∀ (w : World) (mg : Str → Option Value) (fa : Addr) (h : Heap), (K w.params).In h → h.Ns mainGlobals mg → mg d.name = some (.ref fa) → ∀ base : Heap, (K w.params).In base → base.Ns mainGlobals mg → LawOk l.prog w (K w.params) mg base fa) :
    PySem.W.WalkO q loose XP YP l.row.toRowW d [] (fun f vs => PySem.call f vs) := by
  refine Att.attach_call hn hdf fun w s₀ s₁ mg mb fa o pm cd doc a vs ns G Y ho hd hcd hmg hobj hints hlen hg => ?_
  have KX := hY w _ Y
  exact law_go KX G.T.g G.T.b G.T.builtins G.T.nolimit hg hobj hints hlen (F w mg fa _ KX G.T.g hmg)
end Ey
namespace Ey
open PySem PySem.Spec PyProof.Rows L2
/-! ### the text -/
def topS (i : Nat) : Stmt := PySem.Challenge.pw_eyeorder_k01_places_lines_and_directions.main.body.getD i (.Pass ⟨0, 0, 0, 0⟩)
abbrev sDeck : Stmt := topS 9
abbrev sDraw : Stmt := topS 10
abbrev sPick : Stmt := topS 11
theorem scDeck : FnScope ["script", "seed", "mixed", "cell"] ["script", "seed"] (defScope sDeck) := ⟨rfl, rfl, rfl, by decide +kernel, rfl, by decide +kernel, by decide +kernel⟩
theorem scDraw : FnScope ["deck", "many", "cell", "figure"] ["deck", "many"] (defScope sDraw) := ⟨rfl, rfl, rfl, by decide +kernel, rfl, by decide +kernel, by decide +kernel⟩
theorem scPick : FnScope ["deck", "some"] ["deck", "some"] (defScope sPick) := ⟨rfl, rfl, rfl, by decide +kernel, rfl, by decide +kernel, by decide +kernel⟩

/-! ### the deck -/
abbrev dkv (l : Addr) (m k : Int) : List (Key × V) := [(.inr ("left" : Str), .ref l), (.inr ("mixed" : Str), .int m), (.inr ("draws" : Str), .int k)]
theorem nLM : ¬ (Sum.inr ("left" : Str) : Key) = Sum.inr ("mixed" : Str) := by decide +kernel
theorem nLD : ¬ (Sum.inr ("left" : Str) : Key) = Sum.inr ("draws" : Str) := by decide +kernel
theorem nMD : ¬ (Sum.inr ("mixed" : Str) : Key) = Sum.inr ("draws" : Str) := by decide +kernel
theorem dkv_left {l : Addr} {m k : Int} : valV (dkv l m k) (.inr ("left" : Str)) = some (.ref l) := valV_pos rfl
theorem dkv_mixed {l : Addr} {m k : Int} : valV (dkv l m k) (.inr ("mixed" : Str)) = some (.int m) := (valV_neg nLM).trans (valV_pos rfl)
theorem dkv_draws {l : Addr} {m k : Int} : valV (dkv l m k) (.inr ("draws" : Str)) = some (.int k) := (valV_neg nLD).trans ((valV_neg nMD).trans (valV_pos rfl))
theorem dkv_putM {l : Addr} {m k n : Int} : putK (dkv l m k) (.inr ("mixed" : Str)) (.int n) = dkv l n k := by
  unfold putK
  have e1 := nLM
  have e3 : ¬ (Sum.inr ("draws" : Str) : Key) = Sum.inr ("mixed" : Str) := fun z => nMD z.symm
  simp only [dkv, List.any_cons, List.map_cons, List.map_nil, if_neg e1, if_neg e3, if_pos]
  simp
theorem dkv_putD {l : Addr} {m k n : Int} : putK (dkv l m k) (.inr ("draws" : Str)) (.int n) = dkv l m n := by
  unfold putK
  have e1 := nLD
  have e3 := nMD
  simp only [dkv, List.any_cons, List.map_cons, List.map_nil, if_neg e1, if_neg e3, if_pos]
  simp
/-- the deck stands at d, its list at l -/
structure Deck (d l : Addr) (H : Hp) : Prop where
  ex : ∃ (ns : List Int) (m k : Int), ns.length ≤ 63 ∧ H d = some (.dK (dkv l m k)) ∧ H l = some (.lst (ns.map V.int))
/-- all but the deck is as it was -/
def Kp (d l : Addr) (H H' : Hp) : Prop := ∀ a o, H a = some o → a ≠ d → a ≠ l → H' a = some o
theorem Kp.refl {d l : Addr} (H : Hp) : Kp d l H H := fun _ _ e _ _ => e
theorem Kp.trans {d l : Addr} {H H1 H2 : Hp} (a : Kp d l H H1) (b : Kp d l H1 H2) : Kp d l H H2 := fun x o e n1 n2 => b x o (a x o e n1 n2) n1 n2
theorem Kp.of {d l : Addr} {H H1 : Hp} (a : Evl.Ex H H1) : Kp d l H H1 := fun x o e _ _ => a x o e
theorem Kp.new {d l : Addr} {H H1 : Hp} {p : Addr} {o : HO} (a : Kp d l H H1) (n : H1 p = none) : Kp d l H (upd H1 p o) := fun x u e n1 n2 => by
  rw [upd_ne (ne_of_none (a x u e n1 n2) n)]
  exact a x u e n1 n2
theorem Kp.d {d l : Addr} {H H1 : Hp} {o : HO} (a : Kp d l H H1) : Kp d l H (upd H1 d o) := fun x u e n1 n2 => by
  rw [upd_ne n1]
  exact a x u e n1 n2
theorem Kp.l {d l : Addr} {H H1 : Hp} {o : HO} (a : Kp d l H H1) : Kp d l H (upd H1 l o) := fun x u e n1 n2 => by
  rw [upd_ne n2]
  exact a x u e n1 n2
theorem Deck.new {d l : Addr} {H : Hp} {p : Addr} {o : HO} (D : Deck d l H) (n : H p = none) : Deck d l (upd H p o) := by
  obtain ⟨ns, m, k, h, e1, e2⟩ := D.ex
  exact ⟨ns, m, k, h, by rw [upd_ne (ne_of_none e1 n)]; exact e1, by rw [upd_ne (ne_of_none e2 n)]; exact e2⟩
theorem Deck.ex' {d l : Addr} {H H1 : Hp} (D : Deck d l H) (a : Evl.Ex H H1) : Deck d l H1 := by
  obtain ⟨ns, m, k, h, e1, e2⟩ := D.ex
  exact ⟨ns, m, k, h, a _ _ e1, a _ _ e2⟩

theorem g_left {d l : Addr} {m k : Int} {H : Hp} (e : H d = some (.dK (dkv l m k))) : DGet H d (.str ("left" : Str)) (some (.ref l)) := by
  have g := DGet.k (k := Sum.inr ("left" : Str)) e
  rw [dkv_left] at g
  exact g
theorem g_mixed {d l : Addr} {m k : Int} {H : Hp} (e : H d = some (.dK (dkv l m k))) : DGet H d (.str ("mixed" : Str)) (some (.int m)) := by
  have g := DGet.k (k := Sum.inr ("mixed" : Str)) e
  rw [dkv_mixed] at g
  exact g
theorem g_draws {d l : Addr} {m k : Int} {H : Hp} (e : H d = some (.dK (dkv l m k))) : DGet H d (.str ("draws" : Str)) (some (.int k)) := by
  have g := DGet.k (k := Sum.inr ("draws" : Str)) e
  rw [dkv_draws] at g
  exact g
theorem p_mixed {d l : Addr} {m k n : Int} {H : Hp} (e : H d = some (.dK (dkv l m k))) : DPut H d (.str ("mixed" : Str)) (.int n) (upd H d (.dK (dkv l n k))) := by
  have g := DPut.k (k := Sum.inr ("mixed" : Str)) (v := .int n) e (by show 3 < sizeLine; decide)
  rw [dkv_putM] at g
  exact g
theorem p_draws {d l : Addr} {m k n : Int} {H : Hp} (e : H d = some (.dK (dkv l m k))) : DPut H d (.str ("draws" : Str)) (.int n) (upd H d (.dK (dkv l m n))) := by
  have g := DPut.k (k := Sum.inr ("draws" : Str)) (v := .int n) e (by show 3 < sizeLine; decide)
  rw [dkv_putD] at g
  exact g
/-! ### lists of ints as data -/
theorem dp_ints {K : PySem.W.Frag} {H : Hp} : ∀ ns : List Int, DpAll K H (ns.map V.int) (ns.map PyData.int)
  | [] => .nil
  | n :: r => .cons (.int n) (dp_ints r)
theorem lay_ints : ∀ ns : List Int, PyData.canLayAll0 (ns.map PyData.int) = true
  | [] => by simp [PyData.canLayAll0]
  | n :: r => by simp [PyData.canLayAll0, PyData.canLay0, lay_ints r]
theorem dep_ints : ∀ ns : List Int, PyData.depthAll (ns.map PyData.int) = 0
  | [] => by simp [PyData.depthAll]
  | n :: r => by simp [PyData.depthAll, PyData.depth, dep_ints r]
theorem shaped_ints (ns : List Int) : SeqAt.shaped (.list (ns.map PyData.int)) = true := by
  unfold SeqAt.shaped
  simp [PyData.canLay0, PyData.depth, lay_ints, dep_ints]
theorem dv {j : Int} (h : (0 : Int) < j) : (0 : Int) < j := h
theorem lt18 {j : Int} (h : j ≤ 1000000) : j < 10 ^ 18 := Int.lt_of_le_of_lt h (by decide)
theorem nil_or_last : ∀ ns : List Int, ns = [] ∨ ∃ r x, ns = r ++ [x]
  | [] => .inl rfl
  | n :: r => by
    rcases nil_or_last r with e | ⟨q, x, e⟩
    · exact .inr ⟨[], n, by rw [e]; rfl⟩
    · exact .inr ⟨n :: q, x, by rw [e]; rfl⟩
theorem eqv_nil (ns : List Int) : PyData.eqv (.list (ns.map PyData.int)) (.list []) = ns.isEmpty := by
  cases ns <;> simp [PyData.eqv, PyData.eqvAll]
section
variable {P : Program} {w : World} {K : PySem.W.Frag} {mg : Str → Option Value} {base : Heap}
/-- what the top's names say of the language's own -/
structure Blt (mg : Str → Option Value) : Prop where
  int : mg "int" = none
  max : mg "max" = none
  len : mg "len" = none
  list : mg "list" = none
  range : mg "range" = none
  tuple : mg "tuple" = none
  isinst : mg "isinstance" = none
  bool : mg "bool" = none
  abs : mg "abs" = none
  repr : mg "repr" = none
  str : mg "str" = none
  all : mg "all" = none

def spDraw : Sp := fun vs H Q _ => ∃ (d l : Addr) (many : Int), vs = [.ref d, .int many] ∧ 0 < many ∧ many < 10 ^ 18 ∧ Deck d l H ∧ ∀ r H', 0 ≤ r → r < many → Deck d l H' → Kp d l H H' → Q (.int r) H'
theorem ok_draw {f : Addr} {fd : FuncData} {k : Nat} (F : Fun K "_law_draw" "_law_draw" sDraw f fd) (T : Blt mg) : FnOk P w K mg base CX0 (k + 1) f fd ["deck", "many"] spDraw := by
  refine F.ok scDraw (fun vs H Q E h => ?_) (fun cdv A outer s H vs Q E hr h => ?_)
  · obtain ⟨d, l, m, rfl, _⟩ := h
    rfl
  · obtain ⟨d, l, many, rfl, h0, h1, D, q⟩ := h
    have hu := hu_of hr
    have gt {e : Expr} {i : Nat} {tb tc : TE} : True := trivial
    refine ⟨_, pss_cons (ps_dput hu (pv 0) pe_str (pe_op op_add (pe_dget hu (pv 0) pe_str (fun _ _ => rfl)) pe_int) rfl)
      (Evl.pss_cut (ps_if (pt_cmpR (op_neD hr.units) (pe_dget hu (pv 0) pe_str (fun _ _ => rfl)) (pe_lst pa_nil) (nomark _))
        (pss_cons (ps_set (i := 2) scDraw.nd rfl (.inl rfl) (pe_bm0 PySem.F.plainAttrs_list PySem.F.slot_list_pop PySem.F.type_list_pop mt_pop (pe_dget hu (pv 0) pe_str (fun _ _ => rfl))))
        (pss_cons (ps_if (pt_cmpR op_ge (pv 2) (pe_op op_pow pe_int pe_int) (nomark _))
          (pss_cons (ps_expr (pe_bm PySem.F.plainAttrs_list PySem.F.slot_list_append PySem.F.type_list_append mt_append (pe_dget hu (pv 0) pe_str (fun _ _ => rfl))
            (pa_cons (pe_op op_fdivW (pv 2) (pe_callB (call_max2 rfl) (by rfl) T.max (by decide +kernel) (pa_cons pe_int (pa_cons (pv 1) pa_nil)))) pa_nil)))
          (pss_one (ps_ret (pe_op op_mod (pe_callTy call_int1 (by rfl) T.int (by decide +kernel) (pa_cons (pv 2) pa_nil)) (pv 1)))))
          pss_nil)
        (pss_one (ps_dput hu (pv 0) pe_str (pe_op op_mod (pe_callTy call_int1 (by rfl) T.int (by decide +kernel) (pa_cons
          (pe_op op_add (pe_op op_add (pe_op op_mul (pe_dget hu (pv 0) pe_str (fun _ _ => rfl)) pe_int) (pe_op op_mod (pe_callTy call_int1 (by rfl) T.int (by decide +kernel) (pa_cons (pv 2) pa_nil)) pe_int)) pe_int) pa_nil)) pe_int) rfl))))
        pss_nil)
      (pss_cons (ps_set (i := 3) scDraw.nd rfl (.inl rfl) (pe_op op_mod (pe_callTy call_int1 (by rfl) T.int (by decide +kernel) (pa_cons
          (pe_op op_add (pe_dget hu (pv 0) pe_str (fun _ _ => rfl)) (pe_op op_mul pe_int (pe_dget hu (pv 0) pe_str (fun _ _ => rfl)))) pa_nil)) pe_int))
      (pss_cons (ps_set (i := 3) scDraw.nd rfl (.inl rfl) (pe_op op_mod (pe_callTy call_int1 (by rfl) T.int (by decide +kernel) (pa_cons
          (pe_op op_add (pe_op op_add (pe_op op_mul (pv 3) (pv 3)) (pe_op op_mul pe_int (pe_dget hu (pv 0) pe_str (fun _ _ => rfl)))) pe_int) pa_nil)) pe_int))
      (pss_cons (ps_set (i := 3) scDraw.nd rfl (.inl rfl) (pe_op op_mod (pe_callTy call_int1 (by rfl) T.int (by decide +kernel) (pa_cons
          (pe_op op_add (pe_op op_mul (pv 3) pe_int) pe_int) pa_nil)) pe_int))
      (pss_one (ps_ret (pe_op op_mod (pe_callTy call_int1 (by rfl) T.int (by decide +kernel) (pa_cons (pe_op op_fdiv (pv 3) pe_int) pa_nil)) (pv 1)))))))), ?_⟩
    obtain ⟨ns, m, k, hl, e1, e2⟩ := D.ex
    have nld : l ≠ d := ne_of e2 e1 (by intro z; cases z)
    -- deck['draws'] = ..
    refine ⟨.ref d, rfl, d, .int k, rfl, g_draws e1, k, 1, rfl, rfl, .ref d, rfl, d, _, rfl, p_draws e1, ?_⟩
    have a1 : Kp d l H (upd H d (.dK (dkv l m (k + 1)))) := (Kp.refl H).d
    have b1 : (upd H d (.dK (dkv l m (k + 1)))) d = some (.dK (dkv l m (k + 1))) := upd_same
    have b2 : (upd H d (.dK (dkv l m (k + 1)))) l = some (.lst (ns.map V.int)) := by rw [upd_ne nld]; exact e2
    generalize upd H d (.dK (dkv l m (k + 1))) = H1 at a1 b1 b2
    refine ⟨fun σ' H' => ∃ c, σ' = [some (.ref d), some (.int many), c, none] ∧ Deck d l H' ∧ Kp d l H H', ?_, ?_⟩
    · -- if deck['left'] != []
      refine ⟨.ref d, rfl, d, .ref l, rfl, g_left b1, Nat.zero_le _, fun p np => ⟨_, _, Dp.lst (SqL.of (by rw [upd_ne (ne_of_none b2 np)]; exact b2)) (dp_ints ns), Dp.lst (SqL.of upd_same) .nil, shaped_ints ns, shaped_ints [], _, rfl, ?_⟩⟩
      have a2 := a1.new (o := .lst []) np
      have c1 : (upd H1 p (.lst [])) d = some (.dK (dkv l m (k + 1))) := by rw [upd_ne (ne_of_none b1 np)]; exact b1
      have c2 : (upd H1 p (.lst [])) l = some (.lst (ns.map V.int)) := by rw [upd_ne (ne_of_none b2 np)]; exact b2
      generalize upd H1 p (.lst []) = H2 at a2 c1 c2
      rw [eqv_nil]
      rcases nil_or_last ns with rfl | ⟨r, x, rfl⟩
      · exact iteF ⟨none, rfl, ⟨[], m, k + 1, hl, c1, c2⟩, a2⟩
      have hr1 : r.length ≤ 62 := by
        rw [List.length_append] at hl
        exact Nat.le_of_succ_le_succ hl
      rw [show (!(r ++ [x]).isEmpty) = true by cases r <;> rfl]
      refine iteT ?_
      -- cell = deck['left'].pop()
      have em : (r ++ [x]).map V.int = r.map V.int ++ [.int x] := by rw [List.map_append] <;> rfl
      rw [em] at c2
      refine ⟨.ref d, rfl, d, .ref l, rfl, g_left c1, .inl ⟨rfl, _, SqL.of c2⟩, l, _, .int x, rfl, rfl, c2, ?_, ?_⟩
      · rw [List.length_append, List.length_singleton, Nat.add_sub_cancel, List.getElem?_append_right (Nat.le_refl _), Nat.sub_self] <;> rfl
      rw [List.dropLast_concat]
      have a3 := a2.l (o := .lst (r.map V.int))
      have d1 : (upd H2 l (.lst (r.map V.int))) d = some (.dK (dkv l m (k + 1))) := by rw [upd_ne nld.symm]; exact c1
      have d2 : (upd H2 l (.lst (r.map V.int))) l = some (.lst (r.map V.int)) := upd_same
      generalize upd H2 l (.lst (r.map V.int)) = H3 at a3 d1 d2
      -- if cell >= 10 ** 18
      refine ⟨.int x, rfl, 10, 18, rfl, rfl, ⟨by decide, by decide, by decide⟩, x, _, rfl, rfl, _, rfl, ite2 (fun hx => ?_) (fun hx => ?_)⟩
      · have hmx : (0 : Int) < (if many > 2 then many else 2) := by split <;> omega
        have hmb : (if many > 2 then many else 2 : Int).natAbs < 2 ^ 60 := by
          have : (10 : Int) ^ 18 = 1000000000000000000 := by decide
          split <;> omega
        refine ⟨.ref d, rfl, d, .ref l, rfl, g_left d1, .inl ⟨rfl, _, SqL.of d2⟩, .int x, rfl, .int many, rfl, 2, many, rfl, x, _, rfl, rfl, wide_div hmx hmb (by decide) (by decide), l, _, _, rfl, rfl, d2, ?_, ?_⟩
        · rw [List.length_map]
          exact small1000 (by omega)
        · refine ⟨.int x, rfl, .inl ⟨x, rfl, .int many, rfl, x, many, rfl, rfl, h0, ?_⟩⟩
          refine q _ _ (Int.emod_nonneg _ (by omega)) (Int.emod_lt_of_pos _ h0) ⟨r ++ [x / (if many > 2 then many else 2)], m, k + 1, ?_, ?_, ?_⟩ a3.l
          · rw [List.length_append]
            exact Nat.succ_le_succ hr1
          · rw [upd_ne nld.symm]
            exact d1
          · rw [upd_same, List.map_append] <;> rfl
      · -- deck['mixed'] = ..
        refine ⟨.ref d, rfl, d, .int m, rfl, g_mixed d1, m, 39373, rfl, rfl, .inr (by decide), .int x, rfl, .inl ⟨x, rfl, x, 2147483629, rfl, rfl, dv (by decide), _, _, rfl, rfl, _, _, rfl, rfl, .inl ⟨_, rfl, _, _, rfl, rfl, dv (by decide), .ref d, rfl, d, _, rfl, p_mixed d1, ?_⟩⟩⟩
        exact ⟨_, rfl, ⟨r, _, k + 1, by omega, upd_same, by rw [upd_ne nld]; exact d2⟩, a3.d⟩
    · rintro σ' H' ⟨c, rfl, D2, a2⟩
      obtain ⟨ns2, m2, k2, hl2, c1, c2⟩ := D2.ex
      -- the figures
      refine ⟨.ref d, rfl, d, .int m2, rfl, g_mixed c1, .ref d, rfl, d, .int k2, rfl, g_draws c1, _, _, rfl, rfl, .inl (by decide), _, _, rfl, rfl, .inl ⟨_, rfl, _, _, rfl, rfl, dv (by decide), ?_⟩⟩
      refine ⟨_, rfl, _, rfl, _, _, rfl, rfl, .inl ⟨by show -(2 ^ 64 : Int) < (m2 + 31337 * k2) % 2147483647; omega, by show (m2 + 31337 * k2) % 2147483647 < (2 ^ 64 : Int); omega⟩, .ref d, rfl, d, .int k2, rfl, g_draws c1, _, _, rfl, rfl, .inl (by decide), _, _, rfl, rfl, _, _, rfl, rfl, .inl ⟨_, rfl, _, _, rfl, rfl, dv (by decide), ?_⟩⟩
      refine ⟨_, rfl, _, _, rfl, rfl, .inr (by decide), _, _, rfl, rfl, .inl ⟨_, rfl, _, _, rfl, rfl, dv (by decide), ?_⟩⟩
      refine ⟨_, rfl, _, _, rfl, rfl, ⟨by decide, by decide⟩, .inl ⟨_, rfl, .int many, rfl, _, many, rfl, rfl, h0, ?_⟩⟩
      exact q _ _ (Int.emod_nonneg _ (by omega)) (Int.emod_lt_of_pos _ h0) ⟨ns2, m2, k2, hl2, c1, c2⟩ a2

/-- a def of the text, called by its name: its promise at a level -/
structure Fk (P : Program) (w : World) (K : PySem.W.Frag) (mg : Str → Option Value) (base : Heap) (CX : CXT) (k : Nat) (x : Str) (ps : List Str) (sp : Sp) : Prop where
  ex : ∃ (f : Addr) (fd : FuncData), FnOk P w K mg base CX k f fd ps sp ∧ Binds K fd ps [] ∧ mg x = some (.ref f) ∧ PySem.W.keepIn K (.ref f) = true ∧ ∃ oc od osl, K.lookup f = some ⟨oc, od, .func fd, osl⟩
theorem fun_lk {x qual : Str} {st : Stmt} {f : Addr} {fd : FuncData} (F : Fun K x qual st f fd) : ∃ oc od osl, K.lookup f = some ⟨oc, od, .func fd, osl⟩ := by
  obtain ⟨oc, od, kV, doc, pm, an, cdv, ct, osl, e, lk, _⟩ := F.ex
  exact ⟨oc, od, osl, lk⟩
/-- where a def stands -/
structure At (K : PySem.W.Frag) (mg : Str → Option Value) (x : Str) (st : Stmt) : Prop where
  ex : ∃ (f : Addr) (fd : FuncData), Fun K x x st f fd ∧ mg x = some (.ref f)
theorem Fk.mono {CX : CXT} {j k : Nat} {x : Str} {ps : List Str} {sp : Sp} (F : Fk P w K mg base CX j x ps sp) (h : j ≤ k) : Fk P w K mg base CX k x ps sp := by
  obtain ⟨f, fd, a, b, c, d⟩ := F.ex
  exact ⟨f, fd, a.mono h, b, c, d⟩
theorem pe_cl {X : Cx} {CX : CXT} {k : Nat} {x : Str} {ps : List Str} {sp : Sp} {E : XK} {p pos : Pos} {e : Expr} {es : List Expr} {t : TA} (G : Fk X.prog X.w X.K X.mg X.base CX k x ps sp) (hr : Room k X.A) (hg : Gl X x) (hx : Passes CX X E) (ha : PA X (e :: es) t)
    (hdb : (x == ("__debug__" : Str)) = false := by decide) (he : starEach (e :: es) X.env = (false, eval e X.env) :: starEach es X.env := by rfl) (hpl : (backTo pos (starEach es X.env)).any (·.1) = false := by rfl) :
    PE X (.Call (.Name x p) (e :: es) [] pos) (tCall sp [] E t) := by
  obtain ⟨f, fd, a, b, c, d⟩ := G.ex
  exact pe_call a hr hg c d.1 b .nil hx ha hdb he hpl
/-- how x(k = v, ..) binds: keywords ks alone, in the order that o tells -/
def KwOf (K : PySem.W.Frag) (x : Str) (st : Stmt) (ps ks : List Str) (o : List Nat) : Prop :=
  ∀ (f : Addr) (fd : FuncData), Fun K x x st f fd → ∀ (s : Shared) (ws : List Value), K.In s.heap → ws.length = ks.length → BindsTo s fd ⟨[], ks.zip ws⟩ (ps.zip (o.map fun i => ws.getD i .none))
theorem vals_perm {zs : List V} {ws : List Value} (r : Vals zs ws) : ∀ o : List Nat, (∀ i ∈ o, i < zs.length) → Vals (o.map fun i => zs.getD i .non) (o.map fun i => ws.getD i .none)
  | [], _ => .nil
  | i :: o, h => by
    have hi := h i List.mem_cons_self
    obtain ⟨u, hu, ru⟩ := r.get (List.getElem?_eq_getElem hi)
    refine .cons ?_ (vals_perm r o fun j hj => h j (List.mem_cons_of_mem _ hj))
    show RelV (zs.getD i .non) (ws.getD i .none)
    rw [List.getD_eq_getElem?_getD, List.getD_eq_getElem?_getD, hu, List.getElem?_eq_getElem hi]
    exact ru
def tCallKw (n : Nat) (o : List Nat) (sp : Sp) (E : XK) (tk : TA) : TE := fun σ H Q => tk σ H fun zs H1 => zs.length = n ∧ sp (o.map fun i => zs.getD i .non) H1 Q E
theorem pe_clk {X : Cx} {CX : CXT} {k : Nat} {x : Str} {st : Stmt} {ps ks : List Str} {o : List Nat} {sp : Sp} {E : XK} {p pos : Pos} {kws : List Keyword} {tk : TA} (G : Fk X.prog X.w X.K X.mg X.base CX k x ps sp) (S : At X.K X.mg x st) (B : KwOf X.K x st ps ks o) (ho : ∀ i ∈ o, i < ks.length)
    (hr : Room k X.A) (hg : Gl X x) (hx : Passes CX X E) (hkw : PK X kws tk)
    (hall : (backToKw pos (keywordEach kws X.env)).all (·.1.isSome) = true := by rfl) (hks : (backToKw pos (keywordEach kws X.env)).filterMap (·.1) = ks := by rfl) (hdb : (x == ("__debug__" : Str)) = false := by decide)
    (hpl : ((backTo pos (starEach [] X.env)).any (·.1) || (backToKw pos (keywordEach kws X.env)).any (·.1.isNone)) = false := by rfl) :
    PE X (.Call (.Name x p) [] kws pos) (tCallKw ks.length o sp E tk) := by
  obtain ⟨f, fd, a, _, c, d, oc, od, osl, lk⟩ := G.ex
  obtain ⟨f2, fd2, F2, c2⟩ := S.ex
  rw [c] at c2
  cases c2
  obtain ⟨oc2, od2, osl2, lk2⟩ := fun_lk F2
  rw [lk] at lk2
  cases lk2
  refine ⟨fun pins s σ H Q I h => ?_⟩
  refine wpAny_Call_Name_kw (ld_glob I hg c ?_ hdb)
  refine PySem.W.callWith_KW0 (h₀ := X.base) I.ok.mod.kin d hall ?_ hpl
  refine thn (hkw.run pos pins s σ H _ I h) fun ws s2 ⟨zs, H2, I2, rz, hl, q2⟩ => ⟨I2.kIn, ?_⟩
  rw [hks]
  have hl2 : ws.length = ks.length := rz.length.symm.trans hl
  have r2 := vals_perm rz o fun i hi => by rw [hl]; exact ho i hi
  refine wpAny_call (codeAny_mono (a.run X.A X.stack s2 H2 ⟨[], ks.zip ws⟩ _ _ Q E hr I2.env0 (B f fd F2 s2 ws I2.kIn hl2) r2 q2) fun r s' hq => ?_)
  cases r with
  | error e => exact hx pins σ H2 s2 e s' I2 hq
  | ok fl =>
    cases fl with
    | ret u => exact I2.after hq
    | next => exact False.elim hq
    | brk => exact False.elim hq
    | cont => exact False.elim hq
theorem fk_draw (S : At K mg "_law_draw" sDraw) (T : Blt mg) : Fk P w K mg base CX0 1 "_law_draw" ["deck", "many"] spDraw := by
  obtain ⟨f, fd, F, g⟩ := S.ex
  exact ⟨f, fd, ok_draw F T, F.binds fun _ _ _ _ _ _ us hl => (match us, hl with | [_, _], _ => rfl), g, F.kp, fun_lk F⟩

/-! ### one of a list -/
def spPick : Sp := fun vs H Q _ => ∃ (d l a : Addr) (xs : List V), vs = [.ref d, .ref a] ∧ Deck d l H ∧ H a = some (.lst xs) ∧ a ≠ d ∧ a ≠ l ∧ 0 < xs.length ∧ xs.length ≤ 1000 ∧
  ∀ (i : Nat) (v : V) (H' : Hp), xs[i]? = some v → Deck d l H' → Kp d l H H' → Q v H'
theorem fk_pick (S : At K mg "_law_pick" sPick) (T : Blt mg) (G : Fk P w K mg base CX0 1 "_law_draw" ["deck", "many"] spDraw) : Fk P w K mg base CX0 2 "_law_pick" ["deck", "some"] spPick := by
  obtain ⟨f, fd, F, g⟩ := S.ex
  refine ⟨f, fd, F.ok scPick (fun vs H Q E h => ?_) (fun cdv A outer s H vs Q E hr h => ?_), F.binds fun _ _ _ _ _ _ us hl => (match us, hl with | [_, _], _ => rfl), g, F.kp, fun_lk F⟩
  · obtain ⟨d, l, a, xs, rfl, _⟩ := h
    rfl
  · obtain ⟨d, l, a, xs, rfl, D, ea, nd, nl, h0, h1, q⟩ := h
    refine ⟨_, pss_one (ps_ret (pe_ix ix_list (pv 1) (pe_cl G hr (by rfl) pass0 (pa_cons (pv 0) (pa_cons (pe_callB call_len_seq (by rfl) T.len PySem.boot_len (pa_cons (pv 1) pa_nil)) pa_nil))) (fun _ _ => rfl))), ?_⟩
    refine ⟨_, rfl, _, rfl, _, rfl, a, xs, rfl, .inl (SqL.of ea), d, l, _, rfl, by omega, lt18 (by omega), D, fun r H' r0 r1 D' k => ?_⟩
    have hr : r.toNat < xs.length := by omega
    refine ⟨a, xs, r, xs[r.toNat], rfl, rfl, SqL.of (k _ _ ea nd nl), at_of (j := r.toNat) (by omega) (List.getElem?_eq_getElem hr), q _ _ H' (List.getElem?_eq_getElem hr) D' k⟩

/-! ### the deck is made -/
theorem cut_ints (ns : List Int) (lo hi : Option Int) : ∃ ms : List Int, cutV (ns.map V.int) lo hi = ms.map V.int ∧ ms.length ≤ ns.length := by
  refine ⟨(ns.drop (HT.sIx ns.length 0 lo)).take (HT.sIx ns.length ns.length hi - HT.sIx ns.length 0 lo), ?_, ?_⟩
  · unfold cutV
    rw [List.length_map, List.map_take, List.map_drop]
  · rw [List.length_take, List.length_drop]
    omega
def spDeck (K : PySem.W.Frag) : Sp := fun vs H Q _ => ∃ (a : Addr) (ns : List Int) (seed : Int), vs = [.ref a, .int seed] ∧ SqL K H a (ns.map V.int) ∧ ns.length ≤ 63 ∧
  ∀ d l H', Deck d l H' → Evl.Ex H H' → H d = none → H l = none → Q (.ref d) H'
theorem merge_deck {l : Addr} {m k : Int} : mergeK [] (dkv l m k) = dkv l m k := by
  have n1 : valV [((Sum.inr ("left" : Str) : Key), V.ref l)] (.inr ("mixed" : Str)) = none := (valV_neg nLM).trans valV_nil
  have n2 : valV [((Sum.inr ("left" : Str) : Key), V.ref l), (.inr ("mixed" : Str), .int m)] (.inr ("draws" : Str)) = none := (valV_neg nLD).trans ((valV_neg nMD).trans valV_nil)
  show putK (putK (putK [] (Sum.inr ("left" : Str) : Key) (V.ref l)) (Sum.inr ("mixed" : Str)) (V.int m)) (Sum.inr ("draws" : Str)) (V.int k) = _
  rw [show putK ([] : List (Key × V)) (Sum.inr ("left" : Str)) (V.ref l) = [((Sum.inr ("left" : Str) : Key), V.ref l)] from rfl, putK_new _ n1]
  show putK [((Sum.inr ("left" : Str) : Key), V.ref l), ((Sum.inr ("mixed" : Str) : Key), V.int m)] (Sum.inr ("draws" : Str)) (V.int k) = _
  rw [putK_new _ n2] <;> rfl
theorem fk_deck (S : At K mg "_law_deck" sDeck) (T : Blt mg) : Fk P w K mg base CX0 1 "_law_deck" ["script", "seed"] (spDeck K) := by
  obtain ⟨f, fd, F, g⟩ := S.ex
  refine ⟨f, fd, F.ok scDeck (fun vs H Q E h => ?_) (fun cdv A outer s H vs Q E hr h => ?_), F.binds fun _ _ _ _ _ _ us hl => (match us, hl with | [_, _], _ => rfl), g, F.kp, fun_lk F⟩
  · obtain ⟨a, ns, m, rfl, _⟩ := h
    rfl
  · obtain ⟨a, ns, m, rfl, ea, h1, q⟩ := h
    refine ⟨_, pss_cons (ps_set (i := 2) scDeck.nd rfl (.inl rfl) (pv 1))
      (pss_cons (ps_for PassesOwn.never rfl (pi_list (pe_slice sl_list (pv 0) po_none (po_some pe_int))) (pg_name (i := 3) scDeck.nd rfl (.inl rfl))
        (pss_one (ps_set (i := 2) scDeck.nd rfl (.inl rfl) (pe_op op_mod (pe_callTy call_int1 (by rfl) T.int (by decide +kernel) (pa_cons
          (pe_op op_add (pe_op op_add (pe_op op_mul (pv 2) pe_int) (pe_op op_mod (pe_callTy call_int1 (by rfl) T.int (by decide +kernel) (pa_cons (pv 3) pa_nil)) pe_int)) pe_int) pa_nil)) pe_int))))
      (pss_one (ps_ret (pe_disp (pps_cons pe_str (pe_revL (pe_callTy call_list_of (by rfl) T.list (by decide +kernel) (pa_cons (pe_slice sl_list (pv 0) po_none (po_some pe_int)) pa_nil)))
        (pps_cons pe_str (pv 2) (pps_cons pe_str pe_int pps_nil))) (by rfl) (by rfl) (fun z => by cases z) (by decide))))), ?_⟩
    refine ⟨_, rfl, ?_⟩
    -- for cell in script[:63]
    obtain ⟨ms, em, hm⟩ := cut_ints ns none (some 63)
    refine ⟨_, rfl, 63, rfl, a, _, rfl, ea, fun p np => ?_⟩
    rw [em]
    have x1 : Evl.Ex H (upd H p (.lst (ms.map V.int))) := Evl.Ex.new np
    have b1 : (upd H p (.lst (ms.map V.int))) p = some (.lst (ms.map V.int)) := upd_same
    generalize upd H p (.lst (ms.map V.int)) = H1 at x1 b1
    refine ⟨p, rfl, ⟨_, SqL.of b1⟩, for_list (xs := ms.map V.int) (fun _ σ H' => H' = H1 ∧ ∃ (z : Int) (c : Option V), σ = [some (.ref a), some (.int m), some (.int z), c]) ⟨rfl, m, none, rfl⟩ (fun i σ H' _ h => ?_) (fun i x σ H' hx h => ?_) (fun σ H' h => ?_)⟩
    · obtain ⟨rfl, _⟩ := h
      exact SqL.of b1
    · obtain ⟨rfl, z, c, rfl⟩ := h
      obtain ⟨y, hy, rfl⟩ : ∃ y, ms[i]? = some y ∧ x = .int y := by
        rw [List.getElem?_map] at hx
        cases e : ms[i]? with
        | none => rw [e] at hx; cases hx
        | some y => rw [e] at hx; cases hx; exact ⟨y, rfl, rfl⟩
      refine ⟨_, rfl, _, _, rfl, rfl, .inr (by decide), _, rfl, .inl ⟨_, rfl, _, _, rfl, rfl, dv (by decide), _, _, rfl, rfl, _, _, rfl, rfl, .inl ⟨_, rfl, _, _, rfl, rfl, dv (by decide), ?_⟩⟩⟩
      exact ⟨rfl, _, _, rfl⟩
    · obtain ⟨rfl, z, c, rfl⟩ := h
      -- the dict
      refine fun t nt => ?_
      have x2 : Evl.Ex H (upd H' t (.dK [])) := x1.trans (Evl.Ex.new nt)
      have b2 : (upd H' t (.dK [])) t = some (.dK []) := upd_same
      have nH : H t = none := Evl.fresh_back x1 nt
      generalize upd H' t (.dK []) = H2 at x2 b2
      refine ⟨_, rfl, 63, rfl, a, _, rfl, Evl.ex_l x2 ea, fun p2 np2 => ?_⟩
      rw [em]
      have x3 : Evl.Ex H (upd H2 p2 (.lst (ms.map V.int))) := x2.trans (Evl.Ex.new np2)
      have b3 : (upd H2 p2 (.lst (ms.map V.int))) t = some (.dK []) := by rw [upd_ne (ne_of_none b2 np2)]; exact b2
      have b4 : (upd H2 p2 (.lst (ms.map V.int))) p2 = some (.lst (ms.map V.int)) := upd_same
      generalize upd H2 p2 (.lst (ms.map V.int)) = H3 at x3 b3 b4
      refine ⟨p2, _, rfl, .inl (SqL.of b4), fun p3 np3 => ?_⟩
      have x4 : Evl.Ex H (upd H3 p3 (.lst (ms.map V.int))) := x3.trans (Evl.Ex.new np3)
      have b5 : (upd H3 p3 (.lst (ms.map V.int))) t = some (.dK []) := by rw [upd_ne (ne_of_none b3 np3)]; exact b3
      have b6 : (upd H3 p3 (.lst (ms.map V.int))) p3 = some (.lst (ms.map V.int)) := upd_same
      generalize upd H3 p3 (.lst (ms.map V.int)) = H4 at x4 b5 b6
      refine ⟨p3, _, rfl, SqL.of b6, fun p4 np4 => ?_⟩
      rw [← List.map_reverse]
      have x5 : Evl.Ex H (upd H4 p4 (.lst (ms.reverse.map V.int))) := x4.trans (Evl.Ex.new np4)
      have b7 : (upd H4 p4 (.lst (ms.reverse.map V.int))) t = some (.dK []) := by rw [upd_ne (ne_of_none b5 np4)]; exact b5
      have b8 : (upd H4 p4 (.lst (ms.reverse.map V.int))) p4 = some (.lst (ms.reverse.map V.int)) := upd_same
      have nH4 : H p4 = none := Evl.fresh_back x4 np4
      generalize upd H4 p4 (.lst (ms.reverse.map V.int)) = H5 at x5 b7 b8
      refine ⟨_, rfl, b7, dkv p4 z 0, rfl, by show 3 ≤ 15; decide, ?_⟩
      rw [merge_deck]
      exact q t p4 _ ⟨ms.reverse, z, 0, by rw [List.length_reverse]; omega, upd_same, by rw [upd_ne (ne_of b8 b7 (by intro z; cases z))]; exact b8⟩ (x5.mut nH) nH nH4
end
end Ey
namespace Ey
open PySem PySem.Spec PyProof.Rows L2
/-! ### any value -/
abbrev sAny : Stmt := topS 13
theorem scAny : FnScope ["deck", "deep", "way", "some", "turn"] ["deck", "deep"] (defScope sAny) := ⟨rfl, rfl, rfl, by decide +kernel, rfl, by decide +kernel, by decide +kernel⟩
/-- a written leaf -/
def Leaf (v : V) : Prop := ∃ e, (∀ F H, Dd F H v e) ∧ Sz 7 1 e
theorem leaf_int {i : Int} (h : i.natAbs < 2 ^ 250) : Leaf (.int i) := ⟨.int i, fun _ _ => .int i, (sz_int h).mono (by decide) (by decide)⟩
theorem leaf_str {x : Str} (h : (x.cps.toList.all fun c => decide (c < 16 ^ 8)) = true) (hn : x.cps.size ≤ 7) : Leaf (.str x) := ⟨.str x, fun _ _ => .str x, (sz_str h hn).mono (by decide) (by decide)⟩
theorem leaf_non : Leaf .non := ⟨.none, fun _ _ => .non, sz_none.mono (by decide) (by decide)⟩
theorem leaf_bl (b : Bool) : Leaf (.bl b) := ⟨.bool b, fun _ _ => .bl b, (sz_bool b).mono (by decide) (by decide)⟩
theorem all_nil {p : V → Prop} : ∀ v ∈ ([] : List V), p v := fun _ h => nomatch h
theorem all_cons {p : V → Prop} {v : V} {vs : List V} (a : p v) (b : ∀ v ∈ vs, p v) : ∀ u ∈ v :: vs, p u := fun u h => by
  rcases List.mem_cons.mp h with rfl | h
  · exact a
  · exact b u h
theorem DdAll.mono {F G : Addr → Prop} {H : Hp} (fg : ∀ a, F a → G a) : ∀ {vs : List V} {ds : List PyData}, DdAll F H vs ds → DdAll G H vs ds := by
  have go : ∀ {v : V} {d : PyData}, Dd F H v d → Dd G H v d := fun h => by
    induction h using Dd.rec (motive_2 := fun vs ds _ => DdAll G H vs ds) with
    | non => exact .non
    | bl b => exact .bl b
    | int i => exact .int i
    | str x => exact .str x
    | lst f e _ ih => exact .lst (fg _ f) e ih
    | tup e _ ih => exact .tup e ih
    | dic f e _ ih => exact .dic (fg _ f) e ih
    | nil => exact .nil
    | cons _ _ a b => exact .cons a b
  intro vs
  induction vs with
  | nil => intro ds h; cases h; exact .nil
  | cons v vs ih => intro ds h; cases h with | cons a b => exact .cons (go a) (ih b)
theorem Dd.mono {F G : Addr → Prop} {H : Hp} {v : V} {d : PyData} (fg : ∀ a, F a → G a) (h : Dd F H v d) : Dd G H v d := by
  have x := DdAll.mono fg (DdAll.cons h .nil)
  cases x with
  | cons a _ => exact a
theorem DdAll.snoc {F : Addr → Prop} {H : Hp} {v : V} {d : PyData} : ∀ {vs : List V} {ds : List PyData}, DdAll F H vs ds → Dd F H v d → DdAll F H (vs ++ [v]) (ds ++ [d])
  | _, _, .nil, h => .cons h .nil
  | _, _, .cons a b, h => .cons a (DdAll.snoc b h)
/-- the deck's own objects are no data -/
theorem kp_keep {d l : Addr} {F : Addr → Prop} {H H' : Hp} (D : Deck d l H) (k : Kp d l H H') (f : ∀ a, F a → a ≠ d ∧ a ≠ l) : ∀ a o, H a = some o → (F a ∨ ∃ xs, o = .tup xs) → H' a = some o := fun a o e h => by
  obtain ⟨ns, m, z, _, e1, e2⟩ := D.ex
  rcases h with h | ⟨xs, rfl⟩
  · exact k a o e (f a h).1 (f a h).2
  · exact k a _ e (ne_of e e1 (by intro z; cases z)) (ne_of e e2 (by intro z; cases z))
theorem Deck.off {d l : Addr} {H : Hp} (D : Deck d l H) {a : Addr} (h : H a = none) : a ≠ d ∧ a ≠ l := by
  obtain ⟨ns, m, z, _, e1, e2⟩ := D.ex
  exact ⟨(ne_of_none e1 h).symm, (ne_of_none e2 h).symm⟩
theorem Deck.upd {d l p : Addr} {o : HO} {H : Hp} (D : Deck d l H) (n : p ≠ d ∧ p ≠ l) : Deck d l (upd H p o) := by
  obtain ⟨ns, m, z, h, e1, e2⟩ := D.ex
  exact ⟨ns, m, z, h, by rw [upd_ne n.1.symm]; exact e1, by rw [upd_ne n.2.symm]; exact e2⟩
theorem Kp.mut {d l p : Addr} {o : HO} {H H' : Hp} (k : Kp d l H H') (h : H p = none) : Kp d l H (L2.upd H' p o) := fun a u e n1 n2 => by
  rw [upd_ne (ne_of_none e h)]
  exact k a u e n1 n2
/-- a list that is no part of the data changes -/
theorem upd_keep {F : Addr → Prop} {H : Hp} {p : Addr} {xs : List V} {o : HO} (e : H p = some (.lst xs)) (f : ∀ a, F a → a ≠ p) : ∀ a u, H a = some u → (F a ∨ ∃ xs, u = .tup xs) → upd H p o a = some u := fun a u ha h => by
  rcases h with h | ⟨ys, rfl⟩
  · rw [upd_ne (f a h)]; exact ha
  · rw [upd_ne (ne_of ha e (by intro z; cases z))]; exact ha
/-- a new object -/
theorem new_keep {F : Addr → Prop} {H : Hp} {p : Addr} {o : HO} (n : H p = none) : ∀ a u, H a = some u → (F a ∨ ∃ xs, u = .tup xs) → L2.upd H p o a = some u := fun a u ha _ => by
  rw [upd_ne (ne_of_none ha n)]
  exact ha
/-- what was there is there -/
theorem Kp.back {d l : Addr} {H H' : Hp} (D' : Deck d l H') (k : Kp d l H H') {a : Addr} (h : H' a = none) : H a = none := by
  cases e : H a with
  | none => rfl
  | some o =>
    have n := D'.off h
    rw [k a o e n.1 n.2] at h
    cases h
section
variable {P : Program} {w : World} {K : PySem.W.Frag} {mg : Str → Option Value} {base : Heap}
theorem sz_dict2 {n1 n2 n3 n4 m1 m2 m3 m4 : Nat} {a b c e : PyData} (za : Sz n1 m1 a) (zb : Sz n2 m2 b) (zc : Sz n3 m3 c) (ze : Sz n4 m4 e) : Sz (n1 + n2 + n3 + n4 + 4) (max (max m1 m2) (max m3 m4) + 1) (.dict [(a, b), (c, e)]) := by
  refine ⟨by simp [PyData.showable, PyData.showableKv, za.sh, zb.sh, zc.sh, ze.sh], by simp [PyData.leavesShort, PyData.leavesShortKv, za.ls, zb.ls, zc.ls, ze.ls], ?_, ?_⟩
  · have b1 := za.bk
    have b2 := zb.bk
    have b3 := zc.bk
    have b4 := ze.bk
    simp only [PyData.bulk, PyData.bulkKv]
    omega
  · have b1 := za.dp
    have b2 := zb.dp
    have b3 := zc.dp
    have b4 := ze.dp
    simp only [PyData.depth, PyData.depthKv]
    omega
/-- how big -/
def big : Nat → Nat
  | 0 => 7
  | n + 1 => 3 * (big n + 1) + 7
def spAny (n : Nat) : Sp := fun vs H Q _ => ∃ (d l : Addr) (deep : Int), vs = [.ref d, .int deep] ∧ deep ≤ n ∧ Deck d l H ∧
  ∀ (v : V) (e : PyData) (H' : Hp), Dd (fun a => H a = none) H' v e → Sz (big n) (2 * n + 2) e → Deck d l H' → Kp d l H H' → Q v H'
theorem yes_go {σ : L2.St} {H : Hp} {A : Hp → Prop} {B : Hp → Prop} (h : A H) : tYes σ H fun b H3 => if b = true then A H3 else B H3 := by
  show if true = true then A H else B H
  exact iteT h
theorem merge_any {v u : V} : mergeK [] [((Sum.inr ("key" : Str) : Key), v), (.inl 1, u)] = [((Sum.inr ("key" : Str) : Key), v), (.inl 1, u)] := by
  have n0 : ¬ (Sum.inr ("key" : Str) : Key) = Sum.inl 1 := fun z => by cases z
  have n1 : valV [((Sum.inr ("key" : Str) : Key), v)] (Sum.inl 1) = none := (valV_neg n0).trans valV_nil
  show putK (putK ([] : List (Key × V)) (Sum.inr ("key" : Str)) v) (Sum.inl 1) u = _
  rw [show putK ([] : List (Key × V)) (Sum.inr ("key" : Str)) v = [((Sum.inr ("key" : Str) : Key), v)] from rfl, putK_new _ n1] <;> rfl
/-- the promise one deep less -/
def spAnyR : Nat → Sp
  | 0 => fun _ _ _ _ => False
  | n + 1 => spAny n
theorem big_ge : ∀ n, 7 ≤ big n
  | 0 => Nat.le_refl _
  | n + 1 => by have := big_ge n; unfold big; omega
theorem leaf_end {n : Nat} {d l : Addr} {xs : List V} {H : Hp} {Q : VK} (L : ∀ v ∈ xs, Leaf v) (q : ∀ (v : V) (e : PyData) (H' : Hp), Dd (fun a => H a = none) H' v e → Sz (big n) (2 * n + 2) e → Deck d l H' → Kp d l H H' → Q v H')
    {H1 : Hp} (k1 : Kp d l H H1) : ∀ (i : Nat) (v : V) (H' : Hp), xs[i]? = some v → Deck d l H' → Kp d l H1 H' → Q v H' := fun i v H' e D k => by
  obtain ⟨e, hd, z⟩ := L v (List.mem_of_getElem? e)
  exact q v e H' (hd _ _) (z.mono (big_ge n) (by omega)) D (k1.trans k)
theorem fk_anyS (S : At K mg "_law_any" sAny) (T : Blt mg) (GD : Fk P w K mg base CX0 1 "_law_draw" ["deck", "many"] spDraw) (GP : Fk P w K mg base CX0 2 "_law_pick" ["deck", "some"] spPick) (n : Nat)
    (GR : Fk P w K mg base CX0 (n + 2) "_law_any" ["deck", "deep"] (spAnyR n)) : Fk P w K mg base CX0 (n + 3) "_law_any" ["deck", "deep"] (spAny n) := by
  obtain ⟨f, fd, F, g⟩ := S.ex
  refine ⟨f, fd, F.ok scAny (fun vs H Q E h => ?_) (fun cdv A outer s H vs Q E hr h => ?_), F.binds fun _ _ _ _ _ _ us hl => (match us, hl with | [_, _], _ => rfl), g, F.kp, fun_lk F⟩
  · obtain ⟨d, l, m, rfl, _⟩ := h
    rfl
  · obtain ⟨d, l, deep, rfl, hn, D, q⟩ := h
    have h1 : Room 1 (A.deeper (envOfC "_law_any" (defScope sAny) s.heap.objs.size f cdv)) := hr.mono (by omega)
    have h2 : Room 2 (A.deeper (envOfC "_law_any" (defScope sAny) s.heap.objs.size f cdv)) := hr.mono (by omega)
    refine ⟨_, pss_cons (ps_set (i := 2) scAny.nd rfl (.inl rfl) (pe_cl GD h1 (by rfl) pass0 (pa_cons (pv 0) (pa_cons pe_int pa_nil))))
      (pss_cons (ps_if (pt_cmpR op_lt (pv 2) pe_int (nomark _)) (pss_one (ps_ret (pe_cl GP h2 (by rfl) pass0 (pa_cons (pv 0) (pa_cons (pe_lst (pa_cons pe_int (pa_cons pe_int (pa_cons (pe_un un_neg pe_int) (pa_cons pe_int
          (pa_cons (pe_op op_pow pe_int pe_int) (pa_cons (pe_un un_neg (pe_op op_pow pe_int pe_int)) (pa_cons pe_int (pa_cons pe_int pa_nil))))))))) pa_nil))))) pss_nil)
      (pss_cons (ps_if (pt_cmpR op_lt (pv 2) pe_int (nomark _)) (pss_one (ps_ret (pe_cl GP h2 (by rfl) pass0 (pa_cons (pv 0) (pa_cons (pe_lst (pa_cons pe_str (pa_cons pe_str (pa_cons pe_str (pa_cons pe_str (pa_cons pe_str (pa_cons pe_str pa_nil))))))) pa_nil))))) pss_nil)
      (pss_cons (ps_if (pt_cmpR op_eq (pv 2) pe_int (nomark _)) (pss_one (ps_ret (pe_cl GP h2 (by rfl) pass0 (pa_cons (pv 0) (pa_cons (pe_lst (pa_cons pe_bl (pa_cons pe_bl (pa_cons pe_non pa_nil)))) pa_nil))))) pss_nil)
      (Evl.pss_cut (ps_set (i := 3) scAny.nd rfl (.inl rfl) (pe_ifExp (pt_cmpR op_gt (pv 1) pe_int (nomark _))
          (pe_lc (own := [("turn", 4)]) (g := gName 4) (tt := tYes) rfl scAny.nd (pi_range1 rfl T.range (pa_cons (pe_cl GD h1 (by rfl) pass0 (pa_cons (pv 0) (pa_cons pe_int pa_nil))) pa_nil))
            (blkOk_by (own := [("turn", 4)]) (N := ["deck", "deep", "way", "some", "turn"]) (sc := defScope sAny) (by decide +kernel)) (fun _ _ _ _ _ => pg_name (i := 4) scAny.nd rfl (Or.inl rfl)) (fun _ _ _ _ _ => pts_nil)
            (fun _ _ _ _ _ => pe_cl GR hr (by rfl) pass0 (pa_cons (pv 0) (pa_cons (pe_op op_sub (pv 1) pe_int) pa_nil))))
          (pe_lst pa_nil)))
      (pss_cons (ps_if (pt_cmpR op_eq (pv 2) pe_int (nomark _)) (pss_one (ps_ret (pv 3))) pss_nil)
      (pss_one (ps_ret (pe_ifExp (pt_cmpR op_eq (pv 2) pe_int (nomark _))
        (pe_disp (pps_cons pe_str (pv 3) (pps_cons pe_int (pe_callB call_len_seq (by rfl) T.len PySem.boot_len (pa_cons (pv 3) pa_nil)) pps_nil)) (by rfl) (by rfl) (fun z => by cases z) (by decide))
        (pe_callTy call_tuple_of (by rfl) T.tuple (by decide +kernel) (pa_cons (pv 3) pa_nil)))))))))), ?_⟩
    refine ⟨_, rfl, d, l, 10, rfl, by decide, by decide, D, fun r H1 r0 r1 D1 k1 => ?_⟩
    have x0 : [some (V.ref d), some (V.int deep), some (V.int r), none, none] = [some (V.ref d), some (V.int deep), some (V.int r), none, none] := rfl
    -- way < 2
    refine ⟨_, rfl, r, 2, rfl, rfl, _, rfl, ite2 (fun _ => ?_) (fun c1 => ?_)⟩
    · refine ⟨_, rfl, 1, rfl, 10, 11, rfl, rfl, ⟨by decide, by decide, by decide⟩, 10, 10, rfl, rfl, ⟨by decide, by decide, by decide⟩, _, rfl, by show 8 ≤ sizeLine; decide, fun p np => ?_⟩
      refine ⟨d, l, p, _, rfl, D1.new np, upd_same, (D1.off np).1, (D1.off np).2, by decide, by decide, leaf_end (all_cons (leaf_int (by decide)) (all_cons (leaf_int (by decide)) (all_cons (leaf_int (by decide)) (all_cons (leaf_int (by decide))
        (all_cons (leaf_int (by decide)) (all_cons (leaf_int (by decide)) (all_cons (leaf_int (by decide)) (all_cons (leaf_int (by decide)) all_nil)))))))) q (k1.new np)⟩
    -- way < 4
    refine ⟨_, rfl, r, 4, rfl, rfl, _, rfl, ite2 (fun _ => ?_) (fun c2 => ?_)⟩
    · refine ⟨_, rfl, by show 6 ≤ sizeLine; decide, fun p np => ?_⟩
      refine ⟨d, l, p, _, rfl, D1.new np, upd_same, (D1.off np).1, (D1.off np).2, by decide, by decide, leaf_end (all_cons (leaf_str (by decide +kernel) (by decide +kernel)) (all_cons (leaf_str (by decide +kernel) (by decide +kernel)) (all_cons (leaf_str (by decide +kernel) (by decide +kernel))
        (all_cons (leaf_str (by decide +kernel) (by decide +kernel)) (all_cons (leaf_str (by decide +kernel) (by decide +kernel)) (all_cons (leaf_str (by decide +kernel) (by decide +kernel)) all_nil)))))) q (k1.new np)⟩
    -- way == 4
    refine ⟨_, rfl, rfl, _, rfl, ite2 (fun _ => ?_) (fun c3 => ?_)⟩
    · refine ⟨_, rfl, by show 3 ≤ sizeLine; decide, fun p np => ?_⟩
      refine ⟨d, l, p, _, rfl, D1.new np, upd_same, (D1.off np).1, (D1.off np).2, by decide, by decide, leaf_end (all_cons (leaf_bl _) (all_cons (leaf_bl _) (all_cons leaf_non all_nil))) q (k1.new np)⟩
    -- some = ..
    refine ⟨fun σ' H' => ∃ (a : Addr) (vs : List V) (ds : List PyData), σ' = [some (V.ref d), some (V.int deep), some (V.int r), some (V.ref a), none] ∧ H' a = some (.lst vs) ∧ H a = none ∧ DdAll (fun x => H x = none) H' vs ds ∧ ds.length ≤ 3 ∧ SzA (big n - 7) (2 * n) ds ∧ Deck d l H' ∧ Kp d l H H', ?_, ?_⟩
    · refine ⟨_, rfl, deep, 0, rfl, rfl, _, rfl, ite2 (fun hd => ?_) (fun _ => ?_)⟩
      · have hd : 0 < deep := of_decide_eq_true hd
        obtain ⟨n', rfl⟩ : ∃ n', n = n' + 1 := ⟨n - 1, by omega⟩
        refine ⟨_, rfl, d, l, 4, rfl, by decide, by decide, D1, fun t H2 t0 t1 D2 k2 => ⟨t, rfl, by omega, by omega, fun p np => ?_⟩⟩
        have kp2 := k1.trans k2
        have nHp : H p = none := kp2.back D2 np
        have offp := D2.off np
        refine lc_range (lo := 0) (n := t.toNat) (fun i H' => ∃ (vs : List V) (ds : List PyData), ds.length = i ∧ H' p = some (.lst vs) ∧ DdAll (fun a => H a = none ∧ a ≠ p) H' vs ds ∧ (∀ e ∈ ds, Sz (big n') (2 * n' + 2) e) ∧ Deck d l H' ∧ Kp d l H H')
          ⟨[], [], rfl, upd_same, .nil, (fun _ h => nomatch h), D2.new np, kp2.new np⟩ (fun i Hc hi hp => ?_) (fun H' hp => ?_)
        · obtain ⟨vs, ds, hl, ep, hdd, hsz, Dc, kc⟩ := hp
          refine ⟨rfl, yes_go ?_⟩
          refine ⟨_, rfl, _, rfl, deep, 1, rfl, rfl, d, l, deep - 1, rfl, by omega, Dc, fun v e H' hv zv D' k' => ?_⟩
          have ep' : H' p = some (.lst vs) := k' p _ ep offp.1 offp.2
          have fo : ∀ a, (H a = none ∧ a ≠ p) → a ≠ d ∧ a ≠ l := fun a h => D.off h.1
          have hdd' := DdAll.keep (upd_keep (o := .lst (vs ++ [v])) ep' fun a h => h.2) (DdAll.keep (kp_keep Dc k' fo) hdd)
          have hv' := Dd.keep (upd_keep (o := .lst (vs ++ [v])) ep' fun a h => h.2) (hv.mono (G := fun a => H a = none ∧ a ≠ p) fun a h => ⟨kc.back Dc h, fun z => by rw [z, ep] at h; cases h⟩)
          have hlen : vs.length < sizeLine := by
            rw [hdd.length, hl]
            exact small1000 (by omega)
          exact ⟨vs, ep', hlen, vs ++ [v], ds ++ [e], by rw [List.length_append, hl] <;> rfl, upd_same, hdd'.snoc hv', fun y hy => (List.mem_append.mp hy).elim (hsz y) (fun h => by rw [List.mem_singleton.mp h]; exact zv), D'.upd offp, (kc.trans k').mut nHp⟩
        · obtain ⟨vs, ds, hl, ep, hdd, hsz, Dc, kc⟩ := hp
          have hz := sza_of hsz
          have hl3 : ds.length ≤ 3 := by omega
          have hb : big (n' + 1) = 3 * (big n' + 1) + 7 := rfl
          have hm : (big n' + 1) * ds.length ≤ big (n' + 1) - 7 := by
            have := Nat.mul_le_mul_left (big n' + 1) hl3
            omega
          exact ⟨p, vs, ds, rfl, ep, nHp, DdAll.mono (fun a h => h.1) hdd, hl3, hz.mono hm (by omega), Dc, kc⟩
      · exact ⟨Nat.zero_le _, fun p np => ⟨p, [], [], rfl, upd_same, k1.back D1 np, .nil, by decide, sza_nil.mono (Nat.zero_le _) (Nat.le_refl _), D1.new np, k1.new np⟩⟩
    · rintro σ' H' ⟨a, vs, ds, rfl, ea, na, hdd, hl3, hz, D', k'⟩
      have hb := big_ge n
      -- way == 5
      refine ⟨_, rfl, rfl, _, rfl, ite2 (fun _ => ?_) (fun c5 => ?_)⟩
      · exact ⟨_, rfl, q _ _ H' (.lst na ea hdd) (hz.list.mono (by omega) (by omega)) D' k'⟩
      refine ⟨_, rfl, rfl, _, rfl, ite2 (fun _ => ?_) (fun c6 => ?_)⟩
      · refine fun t nt => ?_
        have e1 : (upd H' t (.dK [])) a = some (.lst vs) := by rw [upd_ne (ne_of_none ea nt)]; exact ea
        refine ⟨_, rfl, _, rfl, a, vs, rfl, .inl (SqL.of e1), upd_same, [(.inr ("key" : Str), .ref a), (.inl 1, .int (vs.length : Int))], rfl, by show 2 ≤ 15; decide, ?_⟩
        rw [merge_any, upd_upd]
        have hlen : vs.length ≤ 3 := by rw [hdd.length]; exact hl3
        refine q _ _ _ (.dic (k'.back D' nt) upd_same (.cons (.lst na (by rw [upd_ne (ne_of_none ea nt)]; exact ea) (DdAll.keep (new_keep nt) hdd)) (.cons (.int _) .nil))) ?_ (D'.new nt) (k'.new nt)
        have z1 := hz.list
        have z2 : Sz 0 0 (.int (vs.length : Int)) := sz_int (Nat.lt_of_le_of_lt (show ((vs.length : Nat) : Int).natAbs ≤ 3 by omega) (by decide))
        have z3 : Sz 3 0 (.str ("key" : Str)) := sz_str (by decide +kernel) (by decide +kernel)
        have z4 : Sz 0 0 (.int 1) := sz_int (by decide)
        show Sz (big n) (2 * n + 2) (.dict [(.str ("key" : Str), .list ds), (.int 1, .int (vs.length : Int))])
        exact (sz_dict2 (z3.mono (Nat.le_refl 3) (Nat.zero_le (2 * n))) (z1.mono (Nat.le_refl _) (Nat.le_refl _)) (z4.mono (Nat.le_refl 0) (Nat.zero_le (2 * n))) (z2.mono (Nat.le_refl 0) (Nat.zero_le (2 * n)))).mono (by omega) (by omega)
      · refine ⟨_, rfl, a, vs, rfl, .inl ⟨SqL.of ea, fun p np => ?_⟩⟩
        exact q _ _ _ (.tup upd_same (DdAll.keep (new_keep np) hdd)) (hz.tuple.mono (by omega) (by omega)) (D'.new np) (k'.new np)
theorem fk_none {x : Str} {st : Stmt} {k : Nat} {ps : List Str} (S : At K mg x st) (B : ∀ f fd, Fun K x x st f fd → Binds K fd ps []) : Fk P w K mg base CX0 k x ps (fun _ _ _ _ => False) := by
  obtain ⟨f, fd, F, g⟩ := S.ex
  exact ⟨f, fd, ⟨fun _ _ _ _ h => h.elim, fun _ _ _ _ _ _ _ _ _ _ _ _ _ h => h.elim⟩, B f fd F, g, F.kp, fun_lk F⟩
theorem fk_any (S : At K mg "_law_any" sAny) (T : Blt mg) (GD : Fk P w K mg base CX0 1 "_law_draw" ["deck", "many"] spDraw) (GP : Fk P w K mg base CX0 2 "_law_pick" ["deck", "some"] spPick) :
    ∀ n, Fk P w K mg base CX0 (n + 3) "_law_any" ["deck", "deep"] (spAny n)
  | 0 => fk_anyS S T GD GP 0 (fk_none S fun f fd F => F.binds fun _ _ _ _ _ _ us hl => (match us, hl with | [_, _], _ => rfl))
  | n + 1 => fk_anyS S T GD GP (n + 1) (fk_any S T GD GP n)
end
end Ey
namespace Ey
open PySem PySem.Spec PyProof.Rows L2
/-! ### integers, tuples of integers -/
abbrev sIsInt : Stmt := topS 2
abbrev sIsTup : Stmt := topS 3
abbrev sLIsInt : Stmt := topS 12
abbrev sLAre : Stmt := topS 16
theorem scIsInt : FnScope ["thing"] ["thing"] (defScope sIsInt) := ⟨rfl, rfl, rfl, by decide +kernel, rfl, by decide +kernel, by decide +kernel⟩
theorem scLIsInt : FnScope ["thing"] ["thing"] (defScope sLIsInt) := ⟨rfl, rfl, rfl, by decide +kernel, rfl, by decide +kernel, by decide +kernel⟩
theorem scIsTup : FnScope ["thing", "many", "n"] ["thing", "many"] (defScope sIsTup) := ⟨rfl, rfl, rfl, by decide +kernel, rfl, by decide +kernel, by decide +kernel⟩
theorem scLAre : FnScope ["thing", "many", "x"] ["thing", "many"] (defScope sLAre) := ⟨rfl, rfl, rfl, by decide +kernel, rfl, by decide +kernel, by decide +kernel⟩
def isInt : PyData → Bool
  | .int _ => true
  | _ => false
def isBool : PyData → Bool
  | .bool _ => true
  | _ => false
def isTup : PyData → Bool
  | .tuple _ => true
  | _ => false
theorem ty_of {K : PySem.W.Frag} {F : Addr → Prop} {H : Hp} {v : V} {e : PyData} (h : Dd F H v e) : ∃ T : String, TyX K H v (.type T) ∧ kitB T "int" = some (isInt e || isBool e) ∧ kitB T "bool" = some (isBool e) ∧ kitB T "tuple" = some (isTup e) := by
  cases h with
  | non => exact ⟨_, .base .non, by show kitB "NoneType" "int" = some false; decide +kernel, by show kitB "NoneType" "bool" = some false; decide +kernel, by show kitB "NoneType" "tuple" = some false; decide +kernel⟩
  | bl b => exact ⟨_, .base (.bl b), by show kitB "bool" "int" = some true; decide +kernel, by show kitB "bool" "bool" = some true; decide +kernel, by show kitB "bool" "tuple" = some false; decide +kernel⟩
  | int i => exact ⟨_, .base (.int i), by show kitB "int" "int" = some true; decide +kernel, by show kitB "int" "bool" = some false; decide +kernel, by show kitB "int" "tuple" = some false; decide +kernel⟩
  | str x => exact ⟨_, .base (.str x), by show kitB "str" "int" = some false; decide +kernel, by show kitB "str" "bool" = some false; decide +kernel, by show kitB "str" "tuple" = some false; decide +kernel⟩
  | lst f e _ => exact ⟨_, .base (.lst e), by show kitB "list" "int" = some false; decide +kernel, by show kitB "list" "bool" = some false; decide +kernel, by show kitB "list" "tuple" = some false; decide +kernel⟩
  | tup e _ => exact ⟨_, .base (.tup e), by show kitB "tuple" "int" = some false; decide +kernel, by show kitB "tuple" "bool" = some false; decide +kernel, by show kitB "tuple" "tuple" = some true; decide +kernel⟩
  | dic f e _ => exact ⟨_, .base (.dK e), by show kitB "dict" "int" = some false; decide +kernel, by show kitB "dict" "bool" = some false; decide +kernel, by show kitB "dict" "tuple" = some false; decide +kernel⟩
theorem DdAll.at {F : Addr → Prop} {H : Hp} : ∀ {vs : List V} {ds : List PyData} {i : Nat} {v : V}, DdAll F H vs ds → vs[i]? = some v → ∃ e, ds[i]? = some e ∧ Dd F H v e
  | _, _, _, _, .nil, h => by simp at h
  | _, _, 0, _, .cons a _, h => by
    cases h
    exact ⟨_, rfl, a⟩
  | _, _, i + 1, _, .cons _ b, h => by
    obtain ⟨e, h1, h2⟩ := DdAll.at (i := i) b (by simpa using h)
    exact ⟨e, by simpa using h1, h2⟩
theorem ex_keep {F : Addr → Prop} {H H' : Hp} (x : Evl.Ex H H') : ∀ a o, H a = some o → (F a ∨ ∃ xs, o = .tup xs) → H' a = some o := fun a o e _ => x a o e
section
variable {P : Program} {w : World} {K : PySem.W.Frag} {mg : Str → Option Value} {base : Heap}
def spIsInt : Sp := fun vs H Q _ => ∃ (v : V) (F : Addr → Prop) (e : PyData), vs = [v] ∧ Dd F H v e ∧ Q (.bl (isInt e)) H
theorem isInt_read {e : PyData} {Q : V → Prop} (q : Q (.bl (isInt e))) : if (isInt e || isBool e) = true then Q (.bl (!isBool e)) else Q (.bl false) := by
  cases e <;> exact q
theorem fk_isInt (S : At K mg "is_integer" sIsInt) (T : Blt mg) : Fk P w K mg base CX0 1 "is_integer" ["thing"] spIsInt := by
  obtain ⟨f, fd, F, g⟩ := S.ex
  refine ⟨f, fd, F.ok scIsInt (fun vs H Q E h => ?_) (fun cdv A outer s H vs Q E hr h => ?_), F.binds fun _ _ _ _ _ _ us hl => (match us, hl with | [_], _ => rfl), g, F.kp, fun_lk F⟩
  · obtain ⟨v, G, e, rfl, _⟩ := h
    rfl
  · obtain ⟨v, G, e, rfl, hd, q⟩ := h
    refine ⟨_, pss_one (ps_ret (pe_and (pe_callB call_isi (by rfl) T.isinst (by decide +kernel) (pa_cons (pv 0) (pa_cons (pe_bltn (v := .ty "int") (by rfl) T.int (by decide +kernel) rfl) pa_nil)))
      (pe_one (pe_not (pe_callB call_isi (by rfl) T.isinst (by decide +kernel) (pa_cons (pv 0) (pa_cons (pe_bltn (v := .ty "bool") (by rfl) T.bool (by decide +kernel) rfl) pa_nil))))))), ?_⟩
    obtain ⟨t, ty, k1, k2, _⟩ := ty_of (K := K) hd
    refine ⟨_, rfl, _, _, _, _, _, rfl, .ty _, ty, kit_ty k1, _, rfl, ite2 (fun h1 => ?_) (fun h1 => ?_)⟩
    · refine ⟨_, rfl, _, _, _, _, _, rfl, .ty _, ty, kit_ty k2, _, rfl, ?_⟩
      have := isInt_read (Q := fun v => Q v H) q
      rw [if_pos h1] at this
      exact this
    · have := isInt_read (Q := fun v => Q v H) q
      rw [if_neg h1] at this
      exact this
theorem fk_lIsInt (S : At K mg "_law_is_integer" sLIsInt) (T : Blt mg) : Fk P w K mg base CX0 1 "_law_is_integer" ["thing"] spIsInt := by
  obtain ⟨f, fd, F, g⟩ := S.ex
  refine ⟨f, fd, F.ok scLIsInt (fun vs H Q E h => ?_) (fun cdv A outer s H vs Q E hr h => ?_), F.binds fun _ _ _ _ _ _ us hl => (match us, hl with | [_], _ => rfl), g, F.kp, fun_lk F⟩
  · obtain ⟨v, G, e, rfl, _⟩ := h
    rfl
  · obtain ⟨v, G, e, rfl, hd, q⟩ := h
    refine ⟨_, pss_one (ps_ret (pe_and (pe_callB call_isi (by rfl) T.isinst (by decide +kernel) (pa_cons (pv 0) (pa_cons (pe_bltn (v := .ty "int") (by rfl) T.int (by decide +kernel) rfl) pa_nil)))
      (pe_one (pe_not (pe_callB call_isi (by rfl) T.isinst (by decide +kernel) (pa_cons (pv 0) (pa_cons (pe_bltn (v := .ty "bool") (by rfl) T.bool (by decide +kernel) rfl) pa_nil))))))), ?_⟩
    obtain ⟨t, ty, k1, k2, _⟩ := ty_of (K := K) hd
    refine ⟨_, rfl, _, _, _, _, _, rfl, .ty _, ty, kit_ty k1, _, rfl, ite2 (fun h1 => ?_) (fun h1 => ?_)⟩
    · refine ⟨_, rfl, _, _, _, _, _, rfl, .ty _, ty, kit_ty k2, _, rfl, ?_⟩
      have := isInt_read (Q := fun v => Q v H) q
      rw [if_pos h1] at this
      exact this
    · have := isInt_read (Q := fun v => Q v H) q
      rw [if_neg h1] at this
      exact this
/-- whether it is a tuple of so many integers -/
def isInts (n : Int) : PyData → Bool
  | .tuple ds => (ds.length : Int) == n && ds.all isInt
  | _ => false
theorem isInts_tup {n : Int} {ds : List PyData} : isInts n (.tuple ds) = ((ds.length : Int) == n && ds.all isInt) := rfl
def spIsTup : Sp := fun vs H Q _ => ∃ (v : V) (F : Addr → Prop) (e : PyData) (n : Int) (c : Nat) (m : Nat), vs = [v, .int n] ∧ Dd F H v e ∧ Sz c m e ∧ c ≤ 7000 ∧ ∀ H', Evl.Ex H H' → Q (.bl (isInts n e)) H'
theorem bulk_len : ∀ ds : List PyData, ds.length ≤ PyData.bulkAll ds
  | [] => Nat.zero_le _
  | d :: ds => by
    have := bulk_len ds
    simp only [PyData.bulkAll, List.length_cons]
    omega
theorem fk_isTup (S : At K mg "is_tuple_of_integers" sIsTup) (T : Blt mg) (GI : Fk P w K mg base CX0 1 "is_integer" ["thing"] spIsInt) : Fk P w K mg base CX0 2 "is_tuple_of_integers" ["thing", "many"] spIsTup := by
  obtain ⟨f, fd, F, g⟩ := S.ex
  refine ⟨f, fd, F.ok scIsTup (fun vs H Q E h => ?_) (fun cdv A outer s H vs Q E hr h => ?_), F.binds fun _ _ _ _ _ _ us hl => (match us, hl with | [_, _], _ => rfl), g, F.kp, fun_lk F⟩
  · obtain ⟨v, G, e, n, c, m, rfl, _⟩ := h
    rfl
  · obtain ⟨v, G, e, n, c, m, rfl, hd, hz, hc, q⟩ := h
    refine ⟨_, pss_one (ps_ret (pe_and (pe_callB call_isi (by rfl) T.isinst (by decide +kernel) (pa_cons (pv 0) (pa_cons (pe_bltn (v := .ty "tuple") (by rfl) T.tuple (by decide +kernel) rfl) pa_nil)))
      (pe_and (pe_cmpR op_eq (pe_callB call_len_seq (by rfl) T.len PySem.boot_len (pa_cons (pv 0) pa_nil)) (pv 1) (nomark _))
        (pe_one (pe_callB (cr_all rfl) (by rfl) T.all (by decide +kernel) (pa_cons (pe_lc (own := [("n", 2)]) (g := gName 2) (tt := tYes) rfl scIsTup.nd (pi_tup (pv 0))
            (blkOk_by (own := [("n", 2)]) (N := ["thing", "many", "n"]) (sc := defScope sIsTup) (by decide +kernel)) (fun _ _ _ _ _ => pg_name (i := 2) scIsTup.nd rfl (Or.inl rfl)) (fun _ _ _ _ _ => pts_nil)
            (fun _ _ _ _ _ => pe_cl GI hr (by rfl) pass0 (pa_cons (pv 2) pa_nil))) pa_nil)))))), ?_⟩
    obtain ⟨t, ty, _, _, k3⟩ := ty_of (K := K) hd
    refine ⟨_, rfl, _, _, _, _, _, rfl, .ty _, ty, kit_ty k3, _, rfl, ite2 (fun h1 => ?_) (fun h1 => ?_)⟩
    · cases hd with
      | @tup a xs ds ea hdd =>
        refine ⟨_, rfl, a, xs, rfl, .inr (SqT.of ea), _, rfl, rfl, _, rfl, ite2 (fun h2 => ?_) (fun h2 => ?_)⟩
        · have h2 : ((xs.length : Nat) : Int) = n := V.int.inj (of_decide_eq_true h2)
          refine ⟨_, rfl, a, rfl, ⟨_, SqT.of ea⟩, fun p np => lc_tup (xs := xs) (fun i H' => Evl.Ex H H' ∧ H' p = some (.lst (((ds.take i).map isInt).map V.bl))) ⟨Evl.Ex.new np, upd_same⟩ (fun i H' _ h => SqT.of (h.1 _ _ ea)) (fun i x H' hx h => ?_) (fun H' h => ?_)⟩
          · obtain ⟨e, he, hde⟩ := hdd.at hx
            refine ⟨rfl, yes_go ?_⟩
            refine ⟨_, rfl, x, G, e, rfl, Dd.keep (ex_keep h.1) hde, _, h.2, ?_, h.1.mut np, ?_⟩
            · have hb : ds.length ≤ 7000 := by
                have b1 := hz.bk
                have b2 := bulk_len ds
                simp only [PyData.bulk] at b1
                omega
              rw [List.length_map, List.length_map, List.length_take]
              exact Nat.lt_of_le_of_lt (Nat.min_le_right _ _) (Nat.lt_of_le_of_lt hb (by decide))
            · rw [upd_same, List.take_add_one, he, List.map_append, List.map_append] <;> rfl
          · refine ⟨p, _, rfl, SqL.of h.2, ?_⟩
            have e1 : (((ds.take xs.length).map isInt).all id) = isInts n (.tuple ds) := by
              have hl := hdd.length
              rw [isInts_tup, hl, List.take_length, List.all_map, show ((ds.length : Int) == n) = true by rw [← h2, hl]; exact beq_self_eq_true _]
              rfl
            rw [e1]
            exact q H' h.1
        · have h2 : ¬ ((xs.length : Nat) : Int) = n := fun z => h2 (by rw [z]; exact decide_eq_true rfl)
          have e1 : isInts n (.tuple ds) = false := by
            rw [isInts_tup, show ((ds.length : Int) == n) = false by rw [← hdd.length]; exact beq_eq_false_iff_ne.mpr h2] <;> rfl
          rw [← e1]
          exact q H (Evl.Ex.refl H)
      | _ => exact absurd h1 Bool.false_ne_true
    · have e1 : isInts n e = false := by cases e <;> first | rfl | exact absurd rfl h1
      rw [← e1]
      exact q H (Evl.Ex.refl H)
end
end Ey
namespace Ey
open PySem PySem.Spec PyProof.Rows L2
/-! ### a list beside [] -/
section
variable {X : Cx}
def rEqNil (K : PySem.W.Frag) : R2 := fun x y H Q => ∃ (a b : Addr) (xs : List V), x = .ref a ∧ y = .ref b ∧ SqL K H a xs ∧ SqL K H b [] ∧ Q (.bl xs.isEmpty) H
theorem op_eqNil (hu : X.A.units < cLine) : OpR X (compareOp .Eq) (rEqNil X.K) := by
  intro pins s σ H x y v u Q I rx ry h
  obtain ⟨a, b, xs, rfl, rfl, ha, hb, q⟩ := h
  cases rx
  cases ry
  obtain ⟨i1, r1, p1, _⟩ := I.list ha
  obtain ⟨i2, r2, p2, _⟩ := I.list hb
  cases r2
  cases r1 with
  | nil => exact SeqAt.eq_listAt (e := fun _ => true) p1.isList p2.isList rfl hu (fun j h1 => absurd h1 (Nat.not_lt_zero j)) ⟨.bl true, H, I, rfl, q⟩
  | cons _ _ => exact SeqAt.eq_list_lengthsAt p1.isList p2.isList (by simp) hu ⟨.bl false, H, I, rfl, q⟩
end
section
variable {P : Program} {w : World} {K : PySem.W.Frag} {mg : Str → Option Value} {base : Heap}
theorem filt_int {ds : List PyData} : (ds.filter fun d => !isInt d).isEmpty = ds.all isInt := by
  induction ds with
  | nil => rfl
  | cons d ds ih =>
    rw [List.filter_cons, List.all_cons]
    cases isInt d with
    | true => simpa using ih
    | false => rfl
theorem fk_lAre (S : At K mg "_law_are_integers" sLAre) (T : Blt mg) (GI : Fk P w K mg base CX0 1 "_law_is_integer" ["thing"] spIsInt) : Fk P w K mg base CX0 2 "_law_are_integers" ["thing", "many"] spIsTup := by
  obtain ⟨f, fd, F, g⟩ := S.ex
  refine ⟨f, fd, F.ok scLAre (fun vs H Q E h => ?_) (fun cdv A outer s H vs Q E hr h => ?_), F.binds fun _ _ _ _ _ _ us hl => (match us, hl with | [_, _], _ => rfl), g, F.kp, fun_lk F⟩
  · obtain ⟨v, G, e, n, c, m, rfl, _⟩ := h
    rfl
  · obtain ⟨v, G, e, n, c, m, rfl, hd, hz, hc, q⟩ := h
    refine ⟨_, pss_one (ps_ret (pe_and (pe_callB call_isi (by rfl) T.isinst (by decide +kernel) (pa_cons (pv 0) (pa_cons (pe_bltn (v := .ty "tuple") (by rfl) T.tuple (by decide +kernel) rfl) pa_nil)))
      (pe_and (pe_cmpR op_eq (pe_callB call_len_seq (by rfl) T.len PySem.boot_len (pa_cons (pv 0) pa_nil)) (pv 1) (nomark _))
        (pe_one (pe_cmpR (op_eqNil hr.units0) (pe_lc (own := [("x", 2)]) (g := gName 2) rfl scLAre.nd (pi_tup (pv 0))
            (blkOk_by (own := [("x", 2)]) (N := ["thing", "many", "x"]) (sc := defScope sLAre) (by decide +kernel)) (fun _ _ _ _ _ => pg_name (i := 2) scLAre.nd rfl (Or.inl rfl))
            (fun _ _ _ _ _ => pts_one (pt_not (pt_val (pe_cl GI hr (by rfl) pass0 (pa_cons (pv 2) pa_nil)))))
            (fun _ _ _ _ _ => pv 2)) (pe_lst pa_nil) (nomark _)))))), ?_⟩
    obtain ⟨t, ty, _, _, k3⟩ := ty_of (K := K) hd
    refine ⟨_, rfl, _, _, _, _, _, rfl, .ty _, ty, kit_ty k3, _, rfl, ite2 (fun h1 => ?_) (fun h1 => ?_)⟩
    · cases hd with
      | @tup a xs ds ea hdd =>
        refine ⟨_, rfl, a, xs, rfl, .inr (SqT.of ea), _, rfl, rfl, _, rfl, ite2 (fun h2 => ?_) (fun h2 => ?_)⟩
        · have h2 : ((xs.length : Nat) : Int) = n := V.int.inj (of_decide_eq_true h2)
          have hb : ds.length ≤ 7000 := by
            have b1 := hz.bk
            have b2 := bulk_len ds
            simp only [PyData.bulk] at b1
            omega
          refine ⟨_, rfl, a, rfl, ⟨_, SqT.of ea⟩, fun p np => lc_tup (xs := xs) (fun i H' => Evl.Ex H H' ∧ ∃ ys : List V, H' p = some (.lst ys) ∧ ys.length = ((ds.take i).filter fun d => !isInt d).length) ⟨Evl.Ex.new np, [], upd_same, rfl⟩ (fun i H' _ h => SqT.of (h.1 _ _ ea)) (fun i x H' hx h => ?_) (fun H' h => ?_)⟩
          · obtain ⟨e, he, hde⟩ := hdd.at hx
            obtain ⟨x1, ys, ey, hl⟩ := h
            refine ⟨rfl, ?_⟩
            refine ⟨_, rfl, x, G, e, rfl, Dd.keep (ex_keep x1) hde, _, rfl, ite2 (fun hi => ?_) (fun hi => ?_)⟩
            · refine ⟨_, rfl, ys, ey, ?_, x1.mut np, ys ++ [x], upd_same, ?_⟩
              · have := List.length_filter_le (fun d => !isInt d) (ds.take i)
                rw [List.length_take] at this
                exact Nat.lt_of_le_of_lt (show ys.length ≤ 7000 by omega) (by decide)
              · rw [List.take_add_one, he, List.filter_append, List.length_append, List.length_append, hl]
                simp [hi]
            · refine ⟨x1, ys, ey, ?_⟩
              rw [List.take_add_one, he, List.filter_append, List.length_append, hl]
              simp [hi]
          · obtain ⟨x1, ys, ey, hl⟩ := h
            refine ⟨Nat.zero_le _, fun p2 np2 => ⟨p, p2, ys, rfl, rfl, SqL.of (by rw [upd_ne (ne_of_none ey np2)]; exact ey), SqL.of upd_same, ?_⟩⟩
            have e1 : ys.isEmpty = isInts n (.tuple ds) := by
              rw [hdd.length, List.take_length] at hl
              rw [isInts_tup, show ((ds.length : Int) == n) = true by rw [← h2, hdd.length]; exact beq_self_eq_true _, ← filt_int]
              rw [Bool.true_and]
              cases ys with
              | nil =>
                have := List.eq_nil_of_length_eq_zero hl.symm
                rw [this] <;> rfl
              | cons y ys =>
                cases hf : ds.filter fun d => !isInt d with
                | nil => rw [hf] at hl; cases hl
                | cons _ _ => rfl
            rw [e1]
            exact q _ (x1.trans (Evl.Ex.new np2))
        · have h2 : ¬ ((xs.length : Nat) : Int) = n := fun z => h2 (by rw [z]; exact decide_eq_true rfl)
          have e1 : isInts n (.tuple ds) = false := by
            rw [isInts_tup, show ((ds.length : Int) == n) = false by rw [← hdd.length]; exact beq_eq_false_iff_ne.mpr h2] <;> rfl
          rw [← e1]
          exact q H (Evl.Ex.refl H)
      | _ => exact absurd h1 Bool.false_ne_true
    · have e1 : isInts n e = false := by cases e <;> first | rfl | exact absurd rfl h1
      rw [← e1]
      exact q H (Evl.Ex.refl H)
end
end Ey
namespace Ey
open PySem PySem.Spec PyProof.Rows L2
/-! ### common divisors -/
abbrev sDiv : Stmt := topS 17
abbrev sLeast : Stmt := topS 18
theorem scDiv : FnScope ["row", "found", "x", "one", "other"] ["row"] (defScope sDiv) := ⟨rfl, rfl, rfl, by decide +kernel, rfl, by decide +kernel, by decide +kernel⟩
theorem scLeast : FnScope ["row", "divisor", "x"] ["row"] (defScope sLeast) := ⟨rfl, rfl, rfl, by decide +kernel, rfl, by decide +kernel, by decide +kernel⟩
/-- the greatest common divisor of a row -/
def gl (ns : List Int) : Nat := ns.foldl (fun g x => Nat.gcd x.natAbs g) 0
theorem gl_take {ns : List Int} {i : Nat} {x : Int} (h : ns[i]? = some x) : gl (ns.take (i + 1)) = Nat.gcd x.natAbs (gl (ns.take i)) := by
  unfold gl
  rw [List.take_add_one, h, List.foldl_append] <;> rfl
theorem gcd_step {p q : Int} (hp : 0 ≤ p) (hq : 0 < q) : Nat.gcd q.natAbs (p % q).natAbs = Nat.gcd p.natAbs q.natAbs := by
  rw [Int.natAbs_emod_of_nonneg hp, Nat.gcd_comm, Nat.gcd_comm p.natAbs]
  exact (Nat.gcd_rec q.natAbs p.natAbs).symm
section
variable {P : Program} {w : World} {K : PySem.W.Frag} {mg : Str → Option Value} {base : Heap}
theorem ints_at {ns : List Int} {i : Nat} {x : V} (h : (ns.map V.int)[i]? = some x) : ∃ y, ns[i]? = some y ∧ x = .int y := by
  rw [List.getElem?_map] at h
  cases e : ns[i]? with
  | none => rw [e] at h; cases h
  | some y => rw [e] at h; cases h; exact ⟨y, rfl, rfl⟩
def spDiv (K : PySem.W.Frag) : Sp := fun vs H Q _ => ∃ (a : Addr) (ns : List Int), vs = [.ref a] ∧ SqT K H a (ns.map V.int) ∧ Q (.int (gl ns : Nat)) H
theorem fk_div (S : At K mg "_law_divisor" sDiv) (T : Blt mg) : Fk P w K mg base CX0 1 "_law_divisor" ["row"] (spDiv K) := by
  obtain ⟨f, fd, F, g⟩ := S.ex
  refine ⟨f, fd, F.ok scDiv (fun vs H Q E h => ?_) (fun cdv A outer s H vs Q E hr h => ?_), F.binds fun _ _ _ _ _ _ us hl => (match us, hl with | [_], _ => rfl), g, F.kp, fun_lk F⟩
  · obtain ⟨a, ns, rfl, _⟩ := h
    rfl
  · obtain ⟨a, ns, rfl, ea, q⟩ := h
    refine ⟨_, pss_cons (ps_set (i := 1) scDiv.nd rfl (.inl rfl) pe_int)
      (pss_cons (ps_for PassesOwn.never rfl (pi_tup (pv 0)) (pg_name (i := 2) scDiv.nd rfl (.inl rfl))
        (pss_cons (ps_par (i := 3) (j := 4) (by rfl) scDiv.nd rfl rfl (by decide) rfl rfl (pa_cons (pe_callB call_abs (by rfl) T.abs (by decide +kernel) (pa_cons (pv 2) pa_nil)) (pa_cons (pv 1) pa_nil)) (by rfl))
        (pss_cons (ps_while PassesOwn.never (pt_cmpR op_ne (pv 4) pe_int (nomark _)) (pss_one (ps_par (i := 3) (j := 4) (by rfl) scDiv.nd rfl rfl (by decide) rfl rfl
          (pa_cons (pv 4) (pa_cons (pe_op op_mod (pe_callTy call_int1 (by rfl) T.int (by decide +kernel) (pa_cons (pv 3) pa_nil)) (pv 4)) pa_nil)) (by rfl))))
        (pss_one (ps_set (i := 1) scDiv.nd rfl (.inl rfl) (pv 3))))))
      (pss_one (ps_ret (pv 1)))), ?_⟩
    refine ⟨_, rfl, a, rfl, ⟨_, ea⟩, for_tup (xs := ns.map V.int) (fun i σ H' => H' = H ∧ ∃ x y z, σ = [some (.ref a), some (.int (gl (ns.take i) : Nat)), x, y, z]) ⟨rfl, none, none, none, rfl⟩ (fun i σ H' _ h => ?_) (fun i x σ H' hx h => ?_) (fun σ H' h => ?_)⟩
    · obtain ⟨rfl, _⟩ := h
      exact ea
    · obtain ⟨rfl, u, y, z, rfl⟩ := h
      obtain ⟨n, hn, rfl⟩ := ints_at hx
      refine ⟨.int n, rfl, n, rfl, .int (gl (ns.take i) : Nat), rfl, _, _, rfl, ?_⟩
      refine ⟨fun m σ H1 => H1 = H' ∧ ∃ p q : Int, σ = [some (.ref a), some (.int (gl (ns.take i) : Nat)), some (.int n), some (.int p), some (.int q)] ∧ 0 ≤ p ∧ 0 ≤ q ∧ m = q.toNat ∧ Nat.gcd p.natAbs q.natAbs = gl (ns.take (i + 1)),
        ⟨_, rfl, _, _, rfl, ?_, by omega, rfl, ?_⟩, ?_⟩
      · split <;> omega
      · rw [gl_take hn]
        congr 1
        split <;> omega
      · rintro m σ H1 ⟨rfl, p, q', rfl, hp, hq, rfl, hg⟩
        refine ⟨_, rfl, rfl, _, rfl, ite2 (fun hne => ?_) (fun hne => ?_)⟩
        · have hne : q' ≠ 0 := fun z => by rw [z] at hne; exact absurd hne (by decide)
          have hq0 : 0 < q' := by omega
          refine ⟨fun σ' H' => H' = H1 ∧ σ' = [some (.ref a), some (.int (gl (ns.take i) : Nat)), some (.int n), some (.int q'), some (.int (p % q'))], ?_, ?_⟩
          · rintro σ' H2 ⟨rfl, rfl⟩
            have h1 := Int.emod_nonneg p hne
            have h2 := Int.emod_lt_of_pos p hq0
            exact ⟨_, by omega, rfl, _, _, rfl, by omega, h1, rfl, by rw [gcd_step hp hq0]; exact hg⟩
          · exact ⟨_, rfl, _, rfl, .inl ⟨_, rfl, _, rfl, _, _, rfl, rfl, hq0, _, _, rfl, rfl, rfl⟩⟩
        · have hne : q' = 0 := by
            cases Decidable.em (q' = 0) with
            | inl h => exact h
            | inr h => exact absurd (show (!decide (V.int q' = V.int 0)) = true by rw [decide_eq_false (fun z => h (V.int.inj z))]; rfl) hne
          subst hne
          have e1 : p = ((gl (ns.take (i + 1)) : Nat) : Int) := by
            rw [← hg]
            simp
            omega
          refine ⟨_, rfl, ?_⟩
          refine ⟨rfl, some (.int n), some (.int p), some (.int 0), ?_⟩
          rw [← e1] <;> rfl
    · obtain ⟨rfl, x, y, z, rfl⟩ := h
      rw [List.length_map, List.take_length]
      exact ⟨_, rfl, q⟩
theorem gl_dvd {ns : List Int} : ∀ x ∈ ns, gl ns ∣ x.natAbs := by
  have go : ∀ (ns : List Int) (g : Nat), (ns.foldl (fun g x => Nat.gcd x.natAbs g) g) ∣ g ∧ ∀ x ∈ ns, (ns.foldl (fun g x => Nat.gcd x.natAbs g) g) ∣ x.natAbs := by
    intro ns
    induction ns with
    | nil => exact fun g => ⟨Nat.dvd_refl _, fun _ h => nomatch h⟩
    | cons y ns ih =>
      intro g
      obtain ⟨h1, h2⟩ := ih (Nat.gcd y.natAbs g)
      refine ⟨Nat.dvd_trans h1 (Nat.gcd_dvd_right _ _), fun x hx => ?_⟩
      rcases List.mem_cons.mp hx with rfl | hx
      · exact Nat.dvd_trans h1 (Nat.gcd_dvd_left _ _)
      · exact h2 x hx
  exact (go ns 0).2
theorem gl_pos {ns : List Int} (h : ns ≠ List.replicate ns.length 0) : ∃ x ∈ ns, 0 < gl ns ∧ gl ns ≤ x.natAbs := by
  have : ∃ x ∈ ns, x ≠ 0 := by
    refine Decidable.byContradiction fun hn => h (List.eq_replicate_iff.mpr ⟨rfl, fun x hx => ?_⟩)
    exact Decidable.byContradiction fun hx0 => hn ⟨x, hx, hx0⟩
  obtain ⟨x, hx, h0⟩ := this
  have hd := gl_dvd x hx
  have hp : 0 < x.natAbs := Int.natAbs_pos.mpr h0
  exact ⟨x, hx, Nat.pos_of_dvd_of_pos hd hp, Nat.le_of_dvd hp hd⟩
/-- the row in lowest terms -/
def lowest (ns : List Int) : List Int := ns.map fun x => x / (gl ns : Nat)
def spLeast (K : PySem.W.Frag) : Sp := fun vs H Q _ => ∃ (a : Addr) (ns : List Int), vs = [.ref a] ∧ SqT K H a (ns.map V.int) ∧ ns.length ≤ 100 ∧ 0 < gl ns ∧ gl ns < 2 ^ 250 ∧
  ∀ p H', H p = none → Evl.Ex H H' → H' p = some (.tup ((lowest ns).map V.int)) → Q (.ref p) H'
theorem fk_least (S : At K mg "_law_least" sLeast) (T : Blt mg) (GD : Fk P w K mg base CX0 1 "_law_divisor" ["row"] (spDiv K)) : Fk P w K mg base CX0 2 "_law_least" ["row"] (spLeast K) := by
  obtain ⟨f, fd, F, g⟩ := S.ex
  refine ⟨f, fd, F.ok scLeast (fun vs H Q E h => ?_) (fun cdv A outer s H vs Q E hr h => ?_), F.binds fun _ _ _ _ _ _ us hl => (match us, hl with | [_], _ => rfl), g, F.kp, fun_lk F⟩
  · obtain ⟨a, ns, rfl, _⟩ := h
    rfl
  · obtain ⟨a, ns, rfl, ea, hl, h0, h1, q⟩ := h
    refine ⟨_, pss_cons (ps_set (i := 1) scLeast.nd rfl (.inr rfl) (pe_cl GD hr (by rfl) pass0 (pa_cons (pv 0) pa_nil)))
      (pss_one (ps_ret (pe_callTy call_tuple_of (by rfl) T.tuple (by decide +kernel) (pa_cons (pe_lc (own := [("x", 2)]) (g := gName 2) (tt := tYes) rfl scLeast.nd (pi_tup (pv 0))
            (blkOk_by (own := [("x", 2)]) (N := ["row", "divisor", "x"]) (sc := defScope sLeast) (by decide +kernel)) (fun _ _ _ _ _ => pg_name (i := 2) scLeast.nd rfl (Or.inl rfl)) (fun _ _ _ _ _ => pts_nil)
            (fun _ _ _ _ _ => pe_op op_fdivW (pv 2) (pv 1))) pa_nil)))), ?_⟩
    refine ⟨_, rfl, a, ns, rfl, ea, ?_⟩
    have hw : CDivW 0 ((gl ns : Nat) : Int) := wide_div (by omega) (show (((gl ns : Nat) : Int)).natAbs < 2 ^ 250 by omega) (by decide) (by decide)
    refine ⟨_, rfl, a, rfl, ⟨_, ea⟩, fun p np => lc_tup (xs := ns.map V.int) (fun i H' => Evl.Ex H H' ∧ H' p = some (.lst (((lowest ns).take i).map V.int))) ⟨Evl.Ex.new np, upd_same⟩ (fun i H' _ h => Evl.ex_t h.1 ea) (fun i x H' hx h => ?_) (fun H' h => ?_)⟩
    · obtain ⟨n, hn, rfl⟩ := ints_at hx
      refine ⟨rfl, yes_go ?_⟩
      refine ⟨_, rfl, _, rfl, n, _, rfl, rfl, hw, _, h.2, ?_, h.1.mut np, ?_⟩
      · rw [List.length_map, List.length_take]
        exact Nat.lt_of_le_of_lt (Nat.min_le_right _ _) (by unfold lowest; rw [List.length_map]; exact small1000 (by omega))
      · have e1 : (lowest ns)[i]? = some (n / ((gl ns : Nat) : Int)) := by
          unfold lowest
          rw [List.getElem?_map, hn] <;> rfl
        rw [upd_same, List.take_add_one, e1, List.map_append] <;> rfl
    · have e1 : (lowest ns).take (ns.map V.int).length = lowest ns := List.take_of_length_le (by unfold lowest; rw [List.length_map, List.length_map]; exact Nat.le_refl _)
      rw [e1] at h
      refine ⟨p, _, rfl, .inl ⟨SqL.of h.2, fun t nt => ?_⟩⟩
      exact q t _ (Evl.fresh_back h.1 nt) (h.1.trans (Evl.Ex.new nt)) upd_same
end
end Ey
namespace Ey
open PySem PySem.Spec PyProof.Rows L2
/-! ### places, lines, directions: the program's and the law's -/
abbrev sIsPlace : Stmt := topS 5
abbrev sLIsPlace : Stmt := topS 19
theorem scIsPlace : FnScope ["thing"] ["thing"] (defScope sIsPlace) := ⟨rfl, rfl, rfl, by decide +kernel, rfl, by decide +kernel, by decide +kernel⟩
theorem scLIsPlace : FnScope ["thing"] ["thing"] (defScope sLIsPlace) := ⟨rfl, rfl, rfl, by decide +kernel, rfl, by decide +kernel, by decide +kernel⟩
def isPlace : PyData → Bool
  | .tuple [.int x, .int y, .int w] => decide (0 < w) && decide (Nat.gcd (Nat.gcd x.natAbs y.natAbs) w.natAbs = 1)
  | _ => false
theorem isInts3 {e : PyData} (h : isInts 3 e = true) : ∃ x y w : Int, e = .tuple [.int x, .int y, .int w] := by
  cases e with
  | tuple ds =>
    rw [isInts_tup, Bool.and_eq_true] at h
    have hl : (ds.length : Int) = 3 := eq_of_beq h.1
    have ha := h.2
    match ds, hl, ha with
    | [a, b, c], _, ha =>
      rw [List.all_cons, List.all_cons, List.all_cons, Bool.and_eq_true, Bool.and_eq_true, Bool.and_eq_true] at ha
      cases a with
      | int x =>
        cases b with
        | int y =>
          cases c with
          | int z => exact ⟨x, y, z, rfl⟩
          | _ => exact absurd ha.2.2.1 Bool.false_ne_true
        | _ => exact absurd ha.2.1 Bool.false_ne_true
      | _ => exact absurd ha.1 Bool.false_ne_true
  | _ => exact absurd h Bool.false_ne_true
theorem isInts2 {e : PyData} (h : isInts 2 e = true) : ∃ x y : Int, e = .tuple [.int x, .int y] := by
  cases e with
  | tuple ds =>
    rw [isInts_tup, Bool.and_eq_true] at h
    have hl : (ds.length : Int) = 2 := eq_of_beq h.1
    have ha := h.2
    match ds, hl, ha with
    | [a, b], _, ha =>
      rw [List.all_cons, List.all_cons, Bool.and_eq_true, Bool.and_eq_true] at ha
      cases a with
      | int x =>
        cases b with
        | int y => exact ⟨x, y, rfl⟩
        | _ => exact absurd ha.2.1 Bool.false_ne_true
      | _ => exact absurd ha.1 Bool.false_ne_true
  | _ => exact absurd h Bool.false_ne_true
theorem isPlace_no {e : PyData} (h : isInts 3 e = false) : isPlace e = false := by
  unfold isPlace
  split
  · exact absurd (show true = false from h) (by decide)
  · rfl
/-- a tuple of three integers, where it stands -/
theorem dd_tup3 {F : Addr → Prop} {H : Hp} {v : V} {x y z : Int} (h : Dd F H v (.tuple [.int x, .int y, .int z])) : ∃ a, v = .ref a ∧ H a = some (.tup ([x, y, z].map V.int)) := by
  cases h with
  | tup e r =>
    cases r with
    | cons a r =>
      cases r with
      | cons b r =>
        cases r with
        | cons c r =>
          cases r
          cases a
          cases b
          cases c
          exact ⟨_, rfl, e⟩
theorem dd_tup2 {F : Addr → Prop} {H : Hp} {v : V} {x y : Int} (h : Dd F H v (.tuple [.int x, .int y])) : ∃ a, v = .ref a ∧ H a = some (.tup ([x, y].map V.int)) := by
  cases h with
  | tup e r =>
    cases r with
    | cons a r =>
      cases r with
      | cons b r =>
        cases r
        cases a
        cases b
        exact ⟨_, rfl, e⟩
theorem gl3 (x y z : Int) : gl [x, y, z] = Nat.gcd (Nat.gcd x.natAbs y.natAbs) z.natAbs := by
  show Nat.gcd z.natAbs (Nat.gcd y.natAbs (Nat.gcd x.natAbs 0)) = _
  rw [Nat.gcd_zero_right, Nat.gcd_comm y.natAbs, Nat.gcd_comm]
theorem gl2 (x y : Int) : gl [x, y] = Nat.gcd x.natAbs y.natAbs := by
  show Nat.gcd y.natAbs (Nat.gcd x.natAbs 0) = _
  rw [Nat.gcd_zero_right, Nat.gcd_comm]
theorem dec_one (n : Nat) : decide (V.int ((n : Nat) : Int) = V.int 1) = decide (n = 1) := by
  by_cases h : n = 1
  · subst h; rfl
  · rw [decide_eq_false h, decide_eq_false]
    intro z
    have := V.int.inj z
    omega
section
variable {P : Program} {w : World} {K : PySem.W.Frag} {mg : Str → Option Value} {base : Heap}
/-- a look at any value -/
def spIs (p : PyData → Bool) : Sp := fun vs H Q _ => ∃ (v : V) (F : Addr → Prop) (e : PyData) (c m : Nat), vs = [v] ∧ Dd F H v e ∧ Sz c m e ∧ c ≤ 7000 ∧ ∀ H', Evl.Ex H H' → Q (.bl (p e)) H'
theorem fk_isPlace (S : At K mg "is_place" sIsPlace) (gg : mg "gcd" = some (.builtin "math.gcd")) (GT : Fk P w K mg base CX0 2 "is_tuple_of_integers" ["thing", "many"] spIsTup) : Fk P w K mg base CX0 3 "is_place" ["thing"] (spIs isPlace) := by
  obtain ⟨f, fd, F, g⟩ := S.ex
  refine ⟨f, fd, F.ok scIsPlace (fun vs H Q E h => ?_) (fun cdv A outer s H vs Q E hr h => ?_), F.binds fun _ _ _ _ _ _ us hl => (match us, hl with | [_], _ => rfl), g, F.kp, fun_lk F⟩
  · obtain ⟨v, G, e, c, m, rfl, _⟩ := h
    rfl
  · obtain ⟨v, G, e, c, m, rfl, hd, hz, hc, q⟩ := h
    refine ⟨_, pss_one (ps_ret (pe_and (pe_cl GT hr (by rfl) pass0 (pa_cons (pv 0) (pa_cons pe_int pa_nil)))
      (pe_and (pe_cmpR op_gt (pe_ix ix_tup (pv 0) pe_int (fun _ _ => rfl)) pe_int (nomark _))
        (pe_one (pe_cmpR op_eq (pe_callBfun cr_gcd3 (by rfl) gg (pa_cons (pe_ix ix_tup (pv 0) pe_int (fun _ _ => rfl)) (pa_cons (pe_ix ix_tup (pv 0) pe_int (fun _ _ => rfl)) (pa_cons (pe_ix ix_tup (pv 0) pe_int (fun _ _ => rfl)) pa_nil)))) pe_int (nomark _)))))), ?_⟩
    refine ⟨_, rfl, v, G, e, 3, c, m, rfl, hd, hz, hc, fun H' x => ⟨_, rfl, ite2 (fun h1 => ?_) (fun h1 => ?_)⟩⟩
    · obtain ⟨x1, y1, w1, rfl⟩ := isInts3 h1
      obtain ⟨a, rfl, ea⟩ := dd_tup3 (Dd.keep (ex_keep x) hd)
      have at0 : atI ([x1, y1, w1].map V.int) 0 = some (.int x1) := atI_nat (j := 0) rfl
      have at1 : atI ([x1, y1, w1].map V.int) 1 = some (.int y1) := atI_nat (j := 1) rfl
      have at2 : atI ([x1, y1, w1].map V.int) 2 = some (.int w1) := atI_nat (j := 2) rfl
      refine ⟨_, rfl, a, _, 2, _, rfl, rfl, SqT.of ea, at2, w1, 0, rfl, rfl, _, rfl, ite2 (fun h2 => ?_) (fun h2 => ?_)⟩
      · refine ⟨_, rfl, a, _, 0, _, rfl, rfl, SqT.of ea, at0, _, rfl, a, _, 1, _, rfl, rfl, SqT.of ea, at1, _, rfl, a, _, 2, _, rfl, rfl, SqT.of ea, at2, x1, y1, w1, rfl, rfl, ?_⟩
        rw [dec_one]
        have e1 : isPlace (.tuple [.int x1, .int y1, .int w1]) = decide (Nat.gcd (Nat.gcd x1.natAbs y1.natAbs) w1.natAbs = 1) := by
          show (decide (0 < w1) && _) = _
          rw [h2, Bool.true_and]
        rw [← e1]
        exact q H' x
      · have e1 : isPlace (.tuple [.int x1, .int y1, .int w1]) = false := by
          show (decide (0 < w1) && _) = _
          rw [show decide (0 < w1) = false by simpa using h2, Bool.false_and]
        rw [← e1]
        exact q H' x
    · have e1 := isPlace_no (e := e) (by simpa using h1)
      rw [← e1]
      exact q H' x
theorem fk_lIsPlace (S : At K mg "_law_is_place" sLIsPlace) (GT : Fk P w K mg base CX0 2 "_law_are_integers" ["thing", "many"] spIsTup) (GD : Fk P w K mg base CX0 1 "_law_divisor" ["row"] (spDiv K)) : Fk P w K mg base CX0 3 "_law_is_place" ["thing"] (spIs isPlace) := by
  obtain ⟨f, fd, F, g⟩ := S.ex
  refine ⟨f, fd, F.ok scLIsPlace (fun vs H Q E h => ?_) (fun cdv A outer s H vs Q E hr h => ?_), F.binds fun _ _ _ _ _ _ us hl => (match us, hl with | [_], _ => rfl), g, F.kp, fun_lk F⟩
  · obtain ⟨v, G, e, c, m, rfl, _⟩ := h
    rfl
  · obtain ⟨v, G, e, c, m, rfl, hd, hz, hc, q⟩ := h
    refine ⟨_, pss_one (ps_ret (pe_and (pe_cl GT hr (by rfl) pass0 (pa_cons (pv 0) (pa_cons pe_int pa_nil)))
      (pe_and (pe_cmpR op_gt (pe_ix ix_tup (pv 0) pe_int (fun _ _ => rfl)) pe_int (nomark _))
        (pe_one (pe_cmpR op_eq (pe_cl GD (hr.mono (by decide)) (by rfl) pass0 (pa_cons (pv 0) pa_nil)) pe_int (nomark _)))))), ?_⟩
    refine ⟨_, rfl, v, G, e, 3, c, m, rfl, hd, hz, hc, fun H' x => ⟨_, rfl, ite2 (fun h1 => ?_) (fun h1 => ?_)⟩⟩
    · obtain ⟨x1, y1, w1, rfl⟩ := isInts3 h1
      obtain ⟨a, rfl, ea⟩ := dd_tup3 (Dd.keep (ex_keep x) hd)
      have at2 : atI ([x1, y1, w1].map V.int) 2 = some (.int w1) := atI_nat (j := 2) rfl
      refine ⟨_, rfl, a, _, 2, _, rfl, rfl, SqT.of ea, at2, w1, 0, rfl, rfl, _, rfl, ite2 (fun h2 => ?_) (fun h2 => ?_)⟩
      · refine ⟨_, rfl, a, [x1, y1, w1], rfl, SqT.of ea, rfl, ?_⟩
        rw [dec_one, gl3]
        have e1 : isPlace (.tuple [.int x1, .int y1, .int w1]) = decide (Nat.gcd (Nat.gcd x1.natAbs y1.natAbs) w1.natAbs = 1) := by
          show (decide (0 < w1) && _) = _
          rw [h2, Bool.true_and]
        rw [← e1]
        exact q H' x
      · have e1 : isPlace (.tuple [.int x1, .int y1, .int w1]) = false := by
          show (decide (0 < w1) && _) = _
          rw [show decide (0 < w1) = false by simpa using h2, Bool.false_and]
        rw [← e1]
        exact q H' x
    · have e1 := isPlace_no (e := e) (by simpa using h1)
      rw [← e1]
      exact q H' x
end
end Ey
namespace Ey
open PySem PySem.Spec PyProof.Rows L2
abbrev sIsLine : Stmt := topS 6
abbrev sLIsLine : Stmt := topS 20
abbrev sIsDir : Stmt := topS 7
abbrev sLIsDir : Stmt := topS 21
theorem scIsDir : FnScope ["thing"] ["thing"] (defScope sIsDir) := ⟨rfl, rfl, rfl, by decide +kernel, rfl, by decide +kernel, by decide +kernel⟩
theorem scLIsDir : FnScope ["thing"] ["thing"] (defScope sLIsDir) := ⟨rfl, rfl, rfl, by decide +kernel, rfl, by decide +kernel, by decide +kernel⟩
def isDir : PyData → Bool
  | .tuple [.int x, .int y] => decide (Nat.gcd x.natAbs y.natAbs = 1)
  | _ => false
theorem isDir_no {e : PyData} (h : isInts 2 e = false) : isDir e = false := by
  unfold isDir
  split
  · exact absurd (show true = false from h) (by decide)
  · rfl
theorem isDir_eq {x y : Int} : isDir (.tuple [.int x, .int y]) = decide (Nat.gcd x.natAbs y.natAbs = 1) := rfl
theorem scIsLine : FnScope ["thing"] ["thing"] (defScope sIsLine) := ⟨rfl, rfl, rfl, by decide +kernel, rfl, by decide +kernel, by decide +kernel⟩
theorem scLIsLine : FnScope ["thing"] ["thing"] (defScope sLIsLine) := ⟨rfl, rfl, rfl, by decide +kernel, rfl, by decide +kernel, by decide +kernel⟩
def isLine : PyData → Bool
  | .tuple [.int x, .int y, .int w] => !(decide (x = 0) && decide (y = 0)) && decide (Nat.gcd (Nat.gcd x.natAbs y.natAbs) w.natAbs = 1)
  | _ => false
theorem isLine_no {e : PyData} (h : isInts 3 e = false) : isLine e = false := by
  unfold isLine
  split
  · exact absurd (show true = false from h) (by decide)
  · rfl
theorem isLine_eq {x y w : Int} : isLine (.tuple [.int x, .int y, .int w]) = (!(decide (x = 0) && decide (y = 0)) && decide (Nat.gcd (Nat.gcd x.natAbs y.natAbs) w.natAbs = 1)) := rfl
theorem eqv_ints : ∀ a b : List Int, PyData.eqv (.tuple (a.map .int)) (.tuple (b.map .int)) = decide (a = b) := by
  have go : ∀ a b : List Int, PyData.eqvAll (a.map .int) (b.map .int) = decide (a = b) := by
    intro a
    induction a with
    | nil =>
      intro b
      cases b <;> simp [PyData.eqvAll]
    | cons x a ih =>
      intro b
      cases b with
      | nil => simp [PyData.eqvAll]
      | cons y b =>
        simp only [List.map_cons, PyData.eqvAll, PyData.eqv, ih]
        by_cases h1 : x = y
        · by_cases h2 : a = b
          · simp [h1, h2]
          · simp [h1, h2]
        · simp [h1]
  intro a b
  simp only [PyData.eqv, go]
theorem shaped_tup (ns : List Int) : SeqAt.shaped (.tuple (ns.map PyData.int)) = true := by
  unfold SeqAt.shaped
  simp [PyData.canLay0, PyData.depth, lay_ints, dep_ints]
section
variable {P : Program} {w : World} {K : PySem.W.Frag} {mg : Str → Option Value} {base : Heap}
theorem fk_isLine (S : At K mg "is_line" sIsLine) (gg : mg "gcd" = some (.builtin "math.gcd")) (GT : Fk P w K mg base CX0 2 "is_tuple_of_integers" ["thing", "many"] spIsTup) : Fk P w K mg base CX0 3 "is_line" ["thing"] (spIs isLine) := by
  obtain ⟨f, fd, F, g⟩ := S.ex
  refine ⟨f, fd, F.ok scIsLine (fun vs H Q E h => ?_) (fun cdv A outer s H vs Q E hr h => ?_), F.binds fun _ _ _ _ _ _ us hl => (match us, hl with | [_], _ => rfl), g, F.kp, fun_lk F⟩
  · obtain ⟨v, G, e, c, m, rfl, _⟩ := h
    rfl
  · obtain ⟨v, G, e, c, m, rfl, hd, hz, hc, q⟩ := h
    refine ⟨_, pss_cons (ps_if (PW.pt (pw_or (pt_not (pt_val (pe_cl GT hr (by rfl) pass0 (pa_cons (pv 0) (pa_cons pe_int pa_nil))))) (pw_or1 (pt_chain op_eq op_eq (pe_ix ix_tup (pv 0) pe_int (fun _ _ => rfl)) (pe_ix ix_tup (pv 0) pe_int (fun _ _ => rfl)) pe_int)))) (pss_one (ps_ret pe_bl)) pss_nil)
      (pss_one (ps_ret (pe_cmpR op_eq (pe_callBfun cr_gcd3 (by rfl) gg (pa_cons (pe_ix ix_tup (pv 0) pe_int (fun _ _ => rfl)) (pa_cons (pe_ix ix_tup (pv 0) pe_int (fun _ _ => rfl)) (pa_cons (pe_ix ix_tup (pv 0) pe_int (fun _ _ => rfl)) pa_nil)))) pe_int (nomark _)))), ?_⟩
    refine ⟨_, rfl, v, G, e, 3, c, m, rfl, hd, hz, hc, fun H' x => ⟨_, rfl, ite2 (fun h1 => ?_) (fun h1 => ?_)⟩⟩
    · have e1 := isLine_no (e := e) (by simpa using h1)
      refine iteT ?_
      rw [← show V.bl (isLine e) = .bl false by rw [e1]]
      exact q H' x
    · obtain ⟨x1, y1, w1, rfl⟩ := isInts3 (by simpa using h1)
      obtain ⟨a, rfl, ea⟩ := dd_tup3 (Dd.keep (ex_keep x) hd)
      have at0 : atI ([x1, y1, w1].map V.int) 0 = some (.int x1) := atI_nat (j := 0) rfl
      have at1 : atI ([x1, y1, w1].map V.int) 1 = some (.int y1) := atI_nat (j := 1) rfl
      have at2 : atI ([x1, y1, w1].map V.int) 2 = some (.int w1) := atI_nat (j := 2) rfl
      have fin : (∀ b : Bool, b = (decide (x1 = 0) && decide (y1 = 0)) → (if b = true then Q (.bl false) H' else Q (.bl (decide (V.int ((Nat.gcd (Nat.gcd x1.natAbs y1.natAbs) w1.natAbs : Nat) : Int) = V.int 1))) H')) := fun b hb => by
        have q' := q H' x
        rw [isLine_eq, ← hb] at q'
        rw [dec_one]
        cases b <;> simpa using q'
      have last : ∀ b : Bool, b = (decide (x1 = 0) && decide (y1 = 0)) → tIfS (fun σ H Q => Q b H) (tRet (tC (.bl false))) tNext { nx := tRet (tOp rEq (tCB rGcd3 (tCons (tOp (rIxT K) (tVar 0) (tC (.int 0))) (tCons (tOp (rIxT K) (tVar 0) (tC (.int 1))) (tCons (tOp (rIxT K) (tVar 0) (tC (.int 2))) tNil)))) (tC (.int 1))) { nx := fun _ H' => Q .non H', rt := Q }, rt := Q } (L2.start ["thing"] [.ref a]) H' := fun b hb => by
        have f := fin b hb
        cases b with
        | true => exact f
        | false => exact ⟨_, rfl, a, _, 0, _, rfl, rfl, SqT.of ea, at0, _, rfl, a, _, 1, _, rfl, rfl, SqT.of ea, at1, _, rfl, a, _, 2, _, rfl, rfl, SqT.of ea, at2, x1, y1, w1, rfl, rfl, f⟩
      refine ⟨_, rfl, a, _, 0, _, rfl, rfl, SqT.of ea, at0, _, rfl, a, _, 1, _, rfl, rfl, SqT.of ea, at1, rfl, _, rfl, ite2 (fun h2 => ?_) (fun h2 => ?_)⟩
      · have h2 : x1 = y1 := V.int.inj (of_decide_eq_true h2)
        subst h2
        exact ⟨rfl, _, rfl, last _ (by by_cases h : x1 = 0 <;> simp [h])⟩
      · have h2 : ¬ x1 = y1 := fun z => h2 (decide_eq_true (by rw [z]))
        exact ⟨_, rfl, last false (by by_cases h : x1 = 0 <;> by_cases h' : y1 = 0 <;> simp [h, h']; omega)⟩
theorem fk_lIsLine (S : At K mg "_law_is_line" sLIsLine) (GT : Fk P w K mg base CX0 2 "_law_are_integers" ["thing", "many"] spIsTup) (GD : Fk P w K mg base CX0 1 "_law_divisor" ["row"] (spDiv K)) : Fk P w K mg base CX0 3 "_law_is_line" ["thing"] (spIs isLine) := by
  obtain ⟨f, fd, F, g⟩ := S.ex
  refine ⟨f, fd, F.ok scLIsLine (fun vs H Q E h => ?_) (fun cdv A outer s H vs Q E hr h => ?_), F.binds fun _ _ _ _ _ _ us hl => (match us, hl with | [_], _ => rfl), g, F.kp, fun_lk F⟩
  · obtain ⟨v, G, e, c, m, rfl, _⟩ := h
    rfl
  · obtain ⟨v, G, e, c, m, rfl, hd, hz, hc, q⟩ := h
    refine ⟨_, pss_one (ps_ret (pe_and (pe_cl GT hr (by rfl) pass0 (pa_cons (pv 0) (pa_cons pe_int pa_nil)))
      (pe_and (pe_cmpR (op_neD hr.units) (pe_slice sl_tup (pv 0) po_none (po_some pe_int)) (pe_tup (pa_cons pe_int (pa_cons pe_int pa_nil))) (nomark _))
        (pe_one (pe_cmpR op_eq (pe_cl GD (hr.mono (by decide)) (by rfl) pass0 (pa_cons (pv 0) pa_nil)) pe_int (nomark _)))))), ?_⟩
    refine ⟨_, rfl, v, G, e, 3, c, m, rfl, hd, hz, hc, fun H' x => ⟨_, rfl, ite2 (fun h1 => ?_) (fun h1 => ?_)⟩⟩
    · obtain ⟨x1, y1, w1, rfl⟩ := isInts3 h1
      obtain ⟨a, rfl, ea⟩ := dd_tup3 (Dd.keep (ex_keep x) hd)
      refine ⟨_, rfl, 2, rfl, a, _, rfl, SqT.of ea, (by show ¬(HT.sIx 3 0 none = 0 ∧ HT.sIx 3 3 (some 2) = 3); decide), fun p np => ?_⟩
      rw [show cutV ([x1, y1, w1].map V.int) none (some 2) = [x1, y1].map V.int from rfl]
      refine ⟨by show 2 ≤ sizeLine; decide, fun p2 np2 => ?_⟩
      have b1 : (upd H' p (.tup ([x1, y1].map V.int))) p = some (.tup ([x1, y1].map V.int)) := upd_same
      refine ⟨.tuple ([x1, y1].map .int), .tuple ([0, 0].map .int), .tup (SqT.of (by rw [upd_ne (ne_of_none b1 np2)]; exact b1)) (dp_ints _), .tup (SqT.of upd_same) (dp_ints [0, 0]), shaped_tup _, shaped_tup _, ?_⟩
      have x2 : Evl.Ex H' (upd (upd H' p (.tup ([x1, y1].map V.int))) p2 (.tup [.int 0, .int 0])) := (Evl.Ex.new np).trans (Evl.Ex.new np2)
      have q' := q _ (x.trans x2)
      generalize upd (upd H' p (.tup ([x1, y1].map V.int))) p2 (.tup [.int 0, .int 0]) = H2 at x2 q'
      rw [eqv_ints]
      rw [isLine_eq] at q'
      have e0 : decide ([x1, y1] = [0, 0]) = (decide (x1 = 0) && decide (y1 = 0)) := by simp
      refine ⟨_, rfl, ite2 (fun h2 => ?_) (fun h2 => ?_)⟩
      · rw [e0] at h2
        rw [h2, Bool.true_and] at q'
        refine ⟨_, rfl, a, [x1, y1, w1], rfl, SqT.of (x2 _ _ ea), rfl, ?_⟩
        rw [dec_one, gl3]
        exact q'
      · rw [e0] at h2
        rw [show (!(decide (x1 = 0) && decide (y1 = 0))) = false by simpa using h2, Bool.false_and] at q'
        exact q'
    · have e1 := isLine_no (e := e) (by simpa using h1)
      rw [← e1]
      exact q H' x
theorem fk_isDir (S : At K mg "is_direction" sIsDir) (gg : mg "gcd" = some (.builtin "math.gcd")) (GT : Fk P w K mg base CX0 2 "is_tuple_of_integers" ["thing", "many"] spIsTup) : Fk P w K mg base CX0 3 "is_direction" ["thing"] (spIs isDir) := by
  obtain ⟨f, fd, F, g⟩ := S.ex
  refine ⟨f, fd, F.ok scIsDir (fun vs H Q E h => ?_) (fun cdv A outer s H vs Q E hr h => ?_), F.binds fun _ _ _ _ _ _ us hl => (match us, hl with | [_], _ => rfl), g, F.kp, fun_lk F⟩
  · obtain ⟨v, G, e, c, m, rfl, _⟩ := h
    rfl
  · obtain ⟨v, G, e, c, m, rfl, hd, hz, hc, q⟩ := h
    refine ⟨_, pss_one (ps_ret (pe_and (pe_cl GT hr (by rfl) pass0 (pa_cons (pv 0) (pa_cons pe_int pa_nil)))
        (pe_one (pe_cmpR op_eq (pe_callBfun cr_gcd (by rfl) gg (pa_cons (pe_ix ix_tup (pv 0) pe_int (fun _ _ => rfl)) (pa_cons (pe_ix ix_tup (pv 0) pe_int (fun _ _ => rfl)) pa_nil))) pe_int (nomark _))))), ?_⟩
    refine ⟨_, rfl, v, G, e, 2, c, m, rfl, hd, hz, hc, fun H' x => ⟨_, rfl, ite2 (fun h1 => ?_) (fun h1 => ?_)⟩⟩
    · obtain ⟨x1, y1, rfl⟩ := isInts2 h1
      obtain ⟨a, rfl, ea⟩ := dd_tup2 (Dd.keep (ex_keep x) hd)
      refine ⟨_, rfl, a, _, 0, _, rfl, rfl, SqT.of ea, atI_nat (j := 0) rfl, _, rfl, a, _, 1, _, rfl, rfl, SqT.of ea, atI_nat (j := 1) rfl, x1, y1, rfl, rfl, ?_⟩
      rw [dec_one, ← isDir_eq]
      exact q H' x
    · have e1 := isDir_no (e := e) (by simpa using h1)
      rw [← e1]
      exact q H' x
theorem fk_lIsDir (S : At K mg "_law_is_direction" sLIsDir) (GT : Fk P w K mg base CX0 2 "_law_are_integers" ["thing", "many"] spIsTup) (GD : Fk P w K mg base CX0 1 "_law_divisor" ["row"] (spDiv K)) : Fk P w K mg base CX0 3 "_law_is_direction" ["thing"] (spIs isDir) := by
  obtain ⟨f, fd, F, g⟩ := S.ex
  refine ⟨f, fd, F.ok scLIsDir (fun vs H Q E h => ?_) (fun cdv A outer s H vs Q E hr h => ?_), F.binds fun _ _ _ _ _ _ us hl => (match us, hl with | [_], _ => rfl), g, F.kp, fun_lk F⟩
  · obtain ⟨v, G, e, c, m, rfl, _⟩ := h
    rfl
  · obtain ⟨v, G, e, c, m, rfl, hd, hz, hc, q⟩ := h
    refine ⟨_, pss_one (ps_ret (pe_and (pe_cl GT hr (by rfl) pass0 (pa_cons (pv 0) (pa_cons pe_int pa_nil)))
        (pe_one (pe_cmpR op_eq (pe_cl GD (hr.mono (by decide)) (by rfl) pass0 (pa_cons (pv 0) pa_nil)) pe_int (nomark _))))), ?_⟩
    refine ⟨_, rfl, v, G, e, 2, c, m, rfl, hd, hz, hc, fun H' x => ⟨_, rfl, ite2 (fun h1 => ?_) (fun h1 => ?_)⟩⟩
    · obtain ⟨x1, y1, rfl⟩ := isInts2 h1
      obtain ⟨a, rfl, ea⟩ := dd_tup2 (Dd.keep (ex_keep x) hd)
      refine ⟨_, rfl, a, [x1, y1], rfl, SqT.of ea, rfl, ?_⟩
      rw [dec_one, gl2, ← isDir_eq]
      exact q H' x
    · have e1 := isDir_no (e := e) (by simpa using h1)
      rw [← e1]
      exact q H' x
end
end Ey
namespace Ey
open PySem PySem.Spec PyProof.Rows L2
/-! ### values bent -/
abbrev sInstead : Stmt := topS 14
abbrev sBent : Stmt := topS 15
theorem scInstead : FnScope ["some", "at", "item"] ["some", "at", "item"] (defScope sInstead) := ⟨rfl, rfl, rfl, by decide +kernel, rfl, by decide +kernel, by decide +kernel⟩
theorem scBent : FnScope ["deck", "thing", "deep", "way", "at"] ["deck", "thing", "deep"] (defScope sBent) := ⟨rfl, rfl, rfl, by decide +kernel, rfl, by decide +kernel, by decide +kernel⟩
theorem sz_text {i : Int} (h : i.natAbs < 2 ^ 250) : Sz 252 0 (.str (toString i : String)) := by
  refine sz_str ?_ ?_
  · rw [Str.ofString_eq_toList, List.all_eq_true]
    intro c hc
    rw [List.mem_map] at hc
    obtain ⟨ch, _, rfl⟩ := hc
    exact decide_eq_true (Nat.lt_of_lt_of_le (show ch.toNat < 2 ^ 32 from ch.val.toNat_lt) (by decide))
  · show (Str.ofString (toString i)).length ≤ 252
    rw [PySem.ofString_length]
    have g : i.natAbs.log2 < 250 := by
      by_cases h0 : i.natAbs = 0
      · rw [h0]; decide
      · exact (Nat.log2_lt h0).mpr h
    exact Nat.le_trans (int_text_length_le (by decide) g) (by decide)
/-- a piece of a tuple -/
theorem dd_take {F : Addr → Prop} {H : Hp} : ∀ {vs : List V} {ds : List PyData} (n : Nat), DdAll F H vs ds → DdAll F H (vs.take n) (ds.take n)
  | _, _, 0, _ => .nil
  | _, _, _ + 1, .nil => .nil
  | _, _, n + 1, .cons a b => .cons a (dd_take n b)
theorem dd_drop {F : Addr → Prop} {H : Hp} : ∀ {vs : List V} {ds : List PyData} (n : Nat), DdAll F H vs ds → DdAll F H (vs.drop n) (ds.drop n)
  | _, _, 0, h => h
  | _, _, _ + 1, .nil => .nil
  | _, _, n + 1, .cons a b => dd_drop n b
theorem dd_app {F : Addr → Prop} {H : Hp} : ∀ {vs : List V} {ds : List PyData} {us : List V} {es : List PyData}, DdAll F H vs ds → DdAll F H us es → DdAll F H (vs ++ us) (ds ++ es)
  | _, _, _, _, .nil, h => h
  | _, _, _, _, .cons a b, h => .cons a (dd_app b h)
theorem dd_ints {F : Addr → Prop} {H : Hp} : ∀ ns : List Int, DdAll F H (ns.map V.int) (ns.map PyData.int)
  | [] => .nil
  | n :: r => .cons (.int n) (dd_ints r)
def Bnd (ns : List Int) : Prop := ns.length ≤ 10 ∧ ∀ n ∈ ns, n.natAbs < 2 ^ 240
theorem lt250 {n : Nat} (h : n < 2 ^ 240) : n < 2 ^ 250 := Nat.lt_of_lt_of_le h (Nat.pow_le_pow_right (by decide) (by decide))
theorem Bnd.sz {ns : List Int} (b : Bnd ns) : SzA 10 0 (ns.map PyData.int) := by
  have h := sza_of (ds := ns.map PyData.int) (n := 0) (m := 0) fun d hd => by
    obtain ⟨n, hn, rfl⟩ := List.mem_map.mp hd
    exact sz_int (lt250 (b.2 n hn))
  exact h.mono (by have := b.1; rw [List.length_map]; omega) (Nat.le_refl _)
theorem sza_app {n1 n2 m : Nat} : ∀ {ds es : List PyData}, SzA n1 m ds → SzA n2 m es → SzA (n1 + n2) m (ds ++ es)
  | [], es, _, b => b.mono (by omega) (Nat.le_refl _)
  | d :: ds, es, a, b => by
    have a1 := a.sh
    have a2 := a.ls
    have a3 := a.bk
    have a4 := a.dp
    simp only [PyData.showableAll, PyData.leavesShortAll, PyData.bulkAll, PyData.depthAll, Bool.and_eq_true] at a1 a2 a3 a4
    have ih := sza_app (n1 := PyData.bulkAll ds) (ds := ds) (es := es) ⟨a1.2, a2.2, Nat.le_refl _, by omega⟩ b
    have hd : Sz (PyData.bulk d) m d := ⟨a1.1, a2.1, Nat.le_refl _, by omega⟩
    exact (sza_cons hd ih).mono (by omega) (Nat.le_refl _)
/-- what bending takes: an integer, or (b) a tuple of integers -/
def BIn (b : Bool) (H : Hp) (v : V) : Prop := (∃ i, v = .int i ∧ i.natAbs < 2 ^ 240) ∨ (b = true ∧ ∃ a ns, v = .ref a ∧ H a = some (.tup (ns.map V.int)) ∧ Bnd ns)
section
variable {P : Program} {w : World} {K : PySem.W.Frag} {mg : Str → Option Value} {base : Heap}
theorem cut_eq (vs : List V) (k : Int) : cutV vs none (some k) = vs.take (HT.sIx vs.length vs.length (some k)) := by
  unfold cutV
  rw [HT.sIx_none, List.drop_zero, Nat.sub_zero]
theorem cut_from (vs : List V) (k : Int) : cutV vs (some k) none = vs.drop (HT.sIx vs.length 0 (some k)) := by
  unfold cutV
  rw [HT.sIx_none]
  exact List.take_of_length_le (by rw [List.length_drop]; exact Nat.le_refl _)
/-- instead: the item in its place -/
def spInstead : Sp := fun vs H Q _ => ∃ (a : Addr) (ns : List Int) (at_ : Nat) (v : V) (F : Addr → Prop) (e : PyData) (c m : Nat), vs = [.ref a, .int at_, v] ∧ H a = some (.tup (ns.map V.int)) ∧ Bnd ns ∧ Dd F H v e ∧ Sz c m e ∧ at_ < ns.length ∧
  ∀ (v' : V) (e' : PyData) (H' : Hp), Evl.Ex H H' → Dd F H' v' e' → Sz (c + 21) (m + 1) e' → Q v' H'
theorem fk_instead (S : At K mg "_law_instead" sInstead) : Fk P w K mg base CX0 1 "_law_instead" ["some", "at", "item"] spInstead := by
  obtain ⟨f, fd, F, g⟩ := S.ex
  refine ⟨f, fd, F.ok scInstead (fun vs H Q E h => ?_) (fun cdv A outer s H vs Q E hr h => ?_), F.binds fun _ _ _ _ _ _ us hl => (match us, hl with | [_, _, _], _ => rfl), g, F.kp, fun_lk F⟩
  · obtain ⟨a, ns, z, v, F, e, c, m, rfl, _⟩ := h
    rfl
  · obtain ⟨a, ns, z, v, F, e, c, m, rfl, ea, bn, hd, hz, hlt, q⟩ := h
    have hl10 := bn.1
    refine ⟨_, pss_one (ps_ret (pe_op op_catA (pe_op op_catA (pe_slice sl_tupA (pv 0) po_none (po_some (pv 1))) (pe_tup (pa_cons (pv 2) pa_nil))) (pe_slice sl_tupA (pv 0) (po_some (pe_op op_add (pv 1) pe_int)) po_none))), ?_⟩
    have hk1 : HT.sIx (ns.map V.int).length (ns.map V.int).length (some (z : Int)) = z := by
      rw [HT.sIx_nat, List.length_map]
      omega
    refine ⟨_, rfl, _, rfl, _, rfl, a, _, rfl, SqT.of ea, fun h => ?_, fun _ p np => ?_⟩
    · rw [hk1, List.length_map] at h
      omega
    · rw [cut_eq, hk1]
      have x1 : Evl.Ex H (upd H p (.tup ((ns.map V.int).take z))) := Evl.Ex.new np
      have b1 : (upd H p (.tup ((ns.map V.int).take z))) p = some (.tup ((ns.map V.int).take z)) := upd_same
      generalize upd H p (.tup ((ns.map V.int).take z)) = H1 at x1 b1
      refine ⟨_, rfl, by show 1 ≤ sizeLine; decide, fun p2 np2 => ?_⟩
      have x2 : Evl.Ex H (upd H1 p2 (.tup [v])) := x1.trans (Evl.Ex.new np2)
      have b2 : (upd H1 p2 (.tup [v])) p = some (.tup ((ns.map V.int).take z)) := Evl.Ex.new np2 _ _ b1
      have b3 : (upd H1 p2 (.tup [v])) p2 = some (.tup [v]) := upd_same
      generalize upd H1 p2 (.tup [v]) = H2 at x2 b2 b3
      have fin : ∀ (p3 : Addr) (H3 : Hp), Evl.Ex H H3 → H3 p3 = some (.tup ((ns.map V.int).take z ++ [v])) → tSl (rSlA K) (tVar 0) (tPart (tOp (rI0 fun i j => .int (i + j)) (tVar 1) (tC (.int 1)))) tNoPart (L2.start ["some", "at", "item"] [.ref a, .int z, v]) H3 (fun y H4 => rCatA K (.ref p3) y H4 Q) := fun p3 H3 x3 e3 => by
        have hk2 : HT.sIx (ns.map V.int).length 0 (some ((z : Int) + 1)) = z + 1 := by
          rw [show (z : Int) + 1 = ((z + 1 : Nat) : Int) by omega, HT.sIx_nat, List.length_map]
          omega
        refine ⟨_, rfl, _, rfl, _, _, rfl, rfl, _, rfl, a, _, rfl, SqT.of (x3 _ _ ea), fun h => ?_, fun _ p4 np4 => ?_⟩
        · rw [hk2] at h
          omega
        · rw [cut_from, hk2]
          have x4 : Evl.Ex H (upd H3 p4 (.tup ((ns.map V.int).drop (z + 1)))) := x3.trans (Evl.Ex.new np4)
          have e4 : (upd H3 p4 (.tup ((ns.map V.int).drop (z + 1)))) p3 = some (.tup ((ns.map V.int).take z ++ [v])) := Evl.Ex.new np4 _ _ e3
          have e5 : (upd H3 p4 (.tup ((ns.map V.int).drop (z + 1)))) p4 = some (.tup ((ns.map V.int).drop (z + 1))) := upd_same
          generalize upd H3 p4 (.tup ((ns.map V.int).drop (z + 1))) = H4 at x4 e4 e5
          have dA : DdAll F H4 ((ns.map V.int).take z ++ [v]) ((ns.map PyData.int).take z ++ [e]) := dd_app (dd_take z (dd_ints ns)) (.cons (Dd.keep (ex_keep x4) hd) .nil)
          have dB : DdAll F H4 ((ns.map V.int).drop (z + 1)) ((ns.map PyData.int).drop (z + 1)) := dd_drop (z + 1) (dd_ints ns)
          have b0 := bn.sz
          have sub : ∀ es : List PyData, (∀ y ∈ es, y ∈ ns.map PyData.int) → es.length ≤ 10 → SzA 10 0 es := fun es h1 h2 => by
            have h := sza_of (ds := es) (n := 0) (m := 0) fun d hd => by
              obtain ⟨n, hn, rfl⟩ := List.mem_map.mp (h1 d hd)
              exact sz_int (lt250 (bn.2 n hn))
            exact h.mono (by omega) (Nat.le_refl _)
          have s1 : SzA 10 m ((ns.map PyData.int).take z) := (sub _ (fun y h => List.mem_of_mem_take h) (by rw [List.length_take, List.length_map]; omega)).mono (Nat.le_refl _) (Nat.zero_le _)
          have s2 : SzA 10 m ((ns.map PyData.int).drop (z + 1)) := (sub _ (fun y h => List.mem_of_mem_drop h) (by rw [List.length_drop, List.length_map]; omega)).mono (Nat.le_refl _) (Nat.zero_le _)
          have s3 : SzA (c + 11) m ((ns.map PyData.int).take z ++ [e]) := (sza_app s1 (sza_cons hz sza_nil)).mono (by omega) (Nat.le_refl _)
          refine ⟨p3, p4, _, _, rfl, rfl, SqT.of e4, SqT.of e5, ?_, fun h => ?_, fun _ h => ?_, fun _ _ p5 np5 => ?_⟩
          · rw [List.length_append, List.length_take, List.length_drop, List.length_map, List.length_singleton]
            exact Nat.le_of_lt (small1000 (by omega))
          · exact absurd h (by simp)
          · exact q _ _ _ x4 (.tup e4 dA) (s3.tuple.mono (by omega) (Nat.le_refl _))
          · exact q _ _ _ (x4.trans (Evl.Ex.new np5)) (.tup upd_same (DdAll.keep (new_keep np5) (dd_app dA dB))) ((sza_app s3 s2).tuple.mono (by omega) (Nat.le_refl _))
      refine ⟨p, p2, _, _, rfl, rfl, SqT.of b2, SqT.of b3, ?_, fun h => ?_, fun _ h => ?_, fun _ _ p3 np3 => ?_⟩
      · rw [List.length_take, List.length_map, List.length_singleton]
        exact Nat.le_of_lt (small1000 (by omega))
      · refine fin p2 H2 x2 ?_
        rw [h, List.nil_append]
        exact b3
      · cases h
      · exact fin p3 _ (x2.trans (Evl.Ex.new np3)) upd_same
def bc (b : Bool) : Nat := if b then 600 else 300
def bm (b : Bool) : Nat := if b then 20 else 10
theorem bc_ge (b : Bool) : 300 ≤ bc b := by cases b <;> decide
theorem bm_ge (b : Bool) : 10 ≤ bm b := by cases b <;> decide
/-- bending -/
def spBent (b : Bool) : Sp := fun vs H Q _ => ∃ (d l : Addr) (v : V) (deep : Int), vs = [.ref d, v, .int deep] ∧ Deck d l H ∧ BIn b H v ∧
  ∀ (v' : V) (e' : PyData) (H' : Hp), Dd (fun a => H a = none) H' v' e' → Sz (bc b) (bm b) e' → Deck d l H' → Kp d l H H' → Q v' H'
def spBentR : Bool → Sp
  | false => fun _ _ _ _ => False
  | true => spBent false
theorem BIn.dd {b : Bool} {H : Hp} {v : V} (h : BIn b H v) : ∃ e, (∀ F, Dd F H v e) ∧ ((∃ i, v = .int i ∧ e = .int i ∧ i.natAbs < 2 ^ 240) ∨ (∃ a ns, b = true ∧ v = .ref a ∧ e = .tuple (ns.map PyData.int) ∧ H a = some (.tup (ns.map V.int)) ∧ Bnd ns)) := by
  rcases h with ⟨i, rfl, h⟩ | ⟨hb, a, ns, rfl, ea, bn⟩
  · exact ⟨_, fun _ => .int i, .inl ⟨i, rfl, rfl, h⟩⟩
  · exact ⟨_, fun _ => .tup ea (dd_ints ns), .inr ⟨a, ns, hb, rfl, rfl, ea, bn⟩⟩
theorem pick_dd {c m : Nat} {d l : Addr} {xs : List V} {H H1 : Hp} {Q : VK} {F : Addr → Prop} (D1 : Deck d l H1) (k1 : Kp d l H H1) (f : ∀ a, F a → a ≠ d ∧ a ≠ l) (L : ∀ v ∈ xs, ∃ e, Dd F H1 v e ∧ Sz c m e)
    (q : ∀ (v : V) (e : PyData) (H' : Hp), Dd F H' v e → Sz c m e → Deck d l H' → Kp d l H H' → Q v H') : ∀ (i : Nat) (v : V) (H' : Hp), xs[i]? = some v → Deck d l H' → Kp d l H1 H' → Q v H' := fun i v H' e D k => by
  obtain ⟨e, hd, z⟩ := L v (List.mem_of_getElem? e)
  exact q v e H' (Dd.keep (kp_keep D1 k f) hd) z D (k1.trans k)
theorem fk_bentS (b : Bool) {n : Nat} (hn6 : 6 ≤ n) (S : At K mg "_law_bent" sBent) (T : Blt mg) (GD : Fk P w K mg base CX0 1 "_law_draw" ["deck", "many"] spDraw) (GP : Fk P w K mg base CX0 2 "_law_pick" ["deck", "some"] spPick)
    (GA : Fk P w K mg base CX0 5 "_law_any" ["deck", "deep"] (spAny 2)) (GI : Fk P w K mg base CX0 1 "_law_is_integer" ["thing"] spIsInt) (GN : Fk P w K mg base CX0 1 "_law_instead" ["some", "at", "item"] spInstead)
    (GR : Fk P w K mg base CX0 n "_law_bent" ["deck", "thing", "deep"] (spBentR b)) : Fk P w K mg base CX0 (n + 1) "_law_bent" ["deck", "thing", "deep"] (spBent b) := by
  obtain ⟨f, fd, F, g⟩ := S.ex
  refine ⟨f, fd, F.ok scBent (fun vs H Q E h => ?_) (fun cdv A outer s H vs Q E hr h => ?_), F.binds fun _ _ _ _ _ _ us hl => (match us, hl with | [_, _, _], _ => rfl), g, F.kp, fun_lk F⟩
  · obtain ⟨d, l, v, z, rfl, _⟩ := h
    rfl
  · obtain ⟨d, l, v, deep, rfl, D, hin, q⟩ := h
    have h1 : Room 1 (A.deeper (envOfC "_law_bent" (defScope sBent) s.heap.objs.size f cdv)) := hr.mono (by omega)
    have h2 : Room 2 (A.deeper (envOfC "_law_bent" (defScope sBent) s.heap.objs.size f cdv)) := hr.mono (by omega)
    have h5 : Room 5 (A.deeper (envOfC "_law_bent" (defScope sBent) s.heap.objs.size f cdv)) := hr.mono (by omega)
    refine ⟨_, Evl.pss_cut (ps_if (PW.pt (pw_or (pt_not (pt_val (pe_callB call_isi (by rfl) T.isinst (by decide +kernel) (pa_cons (pv 1) (pa_cons (pe_bltn (v := .ty "tuple") (by rfl) T.tuple (by decide +kernel) rfl) pa_nil)))))
        (pw_or (pt_cmpR (op_eqD hr.units) (pv 1) (pe_tup pa_nil) (nomark _)) (pw_or (pt_cmpR op_eq (pv 2) pe_int (nomark _)) (pw_or1 (pt_cmpR op_eq (pe_cl GD h1 (by rfl) pass0 (pa_cons (pv 0) (pa_cons pe_int pa_nil))) pe_int (nomark _)))))))
        (pss_cons (ps_set (i := 3) scBent.nd rfl (.inl rfl) (pe_cl GD h1 (by rfl) pass0 (pa_cons (pv 0) (pa_cons pe_int pa_nil))))
        (pss_cons (ps_if (pt_val (pe_cl GI h1 (by rfl) pass0 (pa_cons (pv 1) pa_nil))) (pss_one (ps_ret (pe_cl GP h2 (by rfl) pass0 (pa_cons (pv 0) (pa_cons (pe_lst (pa_cons pe_int (pa_cons (pe_un un_neg (pv 1)) (pa_cons (pe_op op_sub (pv 1) pe_int) (pa_cons (pe_op op_add (pv 1) pe_int)
          (pa_cons (pe_callTy call_bool1 (by rfl) T.bool (by decide +kernel) (pa_cons (pv 1) pa_nil)) (pa_cons (pe_callTy call_str_int (by rfl) T.str (by decide +kernel) (pa_cons (pv 1) pa_nil)) (pa_cons (pe_tup (pa_cons (pv 1) pa_nil)) (pa_cons (pe_lst (pa_cons (pv 1) pa_nil)) (pa_cons pe_non (pa_cons (pe_op op_add (pv 1) pe_int) pa_nil))))))))))) pa_nil))))) pss_nil)
        (pss_cons (ps_if (PW.pt (pw_or (pt_cmpR op_eq (pv 3) pe_int (nomark _)) (pw_or1 (pt_not (pt_val (pe_callB call_isi (by rfl) T.isinst (by decide +kernel) (pa_cons (pv 1) (pa_cons (pe_bltn (v := .ty "tuple") (by rfl) T.tuple (by decide +kernel) rfl) pa_nil))))))))
          (pss_one (ps_ret (pe_cl GA h5 (by rfl) pass0 (pa_cons (pv 0) (pa_cons pe_int pa_nil))))) pss_nil)
        (pss_cons (ps_if (pt_cmpR op_lt (pv 3) pe_int (nomark _)) (pss_one (ps_ret (pe_callTy call_list_of (by rfl) T.list (by decide +kernel) (pa_cons (pv 1) pa_nil)))) pss_nil)
        (pss_cons (ps_if (pt_cmpR op_lt (pv 3) pe_int (nomark _)) (pss_one (ps_ret (pe_op op_catA (pv 1) (pe_tup (pa_cons (pe_cl GP h2 (by rfl) pass0 (pa_cons (pv 0) (pa_cons (pe_lst (pa_cons (pe_tup pa_nil) (pa_cons pe_int (pa_cons pe_int (pa_cons (pe_tup (pa_cons pe_int pa_nil)) (pa_cons pe_non (pa_cons pe_bl pa_nil))))))) pa_nil))) pa_nil))))) pss_nil)
        (pss_cons (ps_if (pt_cmpR op_lt (pv 3) pe_int (nomark _)) (pss_one (ps_ret (pe_revT (pv 1)))) pss_nil)
        (pss_cons (ps_if (pt_cmpR op_lt (pv 3) pe_int (nomark _)) (pss_one (ps_ret (pe_op op_catA (pv 1) (pe_slice sl_tupA (pv 1) po_none (po_some pe_int))))) pss_nil)
        (pss_one (ps_ret (pe_ifExp (pt_cmpR op_lt (pv 3) pe_int (nomark _)) (pe_slice sl_tupA (pv 1) (po_some pe_int) po_none) (pe_tup (pa_cons (pv 1) pa_nil)))))))))))) pss_nil)
      (pss_cons (ps_set (i := 4) scBent.nd rfl (.inl rfl) (pe_cl GD h1 (by rfl) pass0 (pa_cons (pv 0) (pa_cons (pe_callB call_len_seq (by rfl) T.len PySem.boot_len (pa_cons (pv 1) pa_nil)) pa_nil))))
      (pss_one (ps_ret (pe_cl GN h1 (by rfl) pass0 (pa_cons (pv 1) (pa_cons (pv 4) (pa_cons (pe_cl GR hr (by rfl) pass0 (pa_cons (pv 0) (pa_cons (pe_ix ix_tup (pv 1) (pv 4) (fun _ _ => rfl)) (pa_cons (pe_op op_sub (pv 2) pe_int) pa_nil)))) pa_nil))))))), ?_⟩
    have offF : ∀ a, H a = none → a ≠ d ∧ a ≠ l := fun a h => D.off h
    rcases hin with ⟨i, rfl, hi⟩ | ⟨rfl, a, ns, rfl, ea, bn⟩
    · -- an integer
      have hb : i.natAbs < 2 ^ 250 := lt250 hi
      have hbig : ∀ j : Int, j.natAbs < 2 ^ 240 + 10 → Sz (bc b) (bm b) (.int j) := fun j hj => (sz_int (Nat.lt_of_lt_of_le hj (by decide))).mono (Nat.zero_le _) (Nat.zero_le _)
      refine ⟨fun _ _ => False, ?_, fun _ _ h => h.elim⟩
      refine ⟨_, rfl, _, _, _, _, _, rfl, .ty _, .base (.int i), kit_ty (show kitB "int" "tuple" = some false by decide +kernel), _, rfl, ?_⟩
      refine iteT (iteT ?_)
      refine ⟨_, rfl, d, l, 14, rfl, by decide, by decide, D, fun r H2 _ _ D2 k2 => ?_⟩
      refine ⟨_, rfl, .int i, fun _ => True, .int i, rfl, .int i, _, rfl, iteT ?_⟩
      refine ⟨_, rfl, _, rfl, i, rfl, _, rfl, i, 1, rfl, rfl, _, rfl, i, 1, rfl, rfl, _, rfl, .inl ⟨i, rfl, _, rfl, i, rfl, ?_, _, rfl, by show 1 ≤ sizeLine; decide, fun p np => ?_⟩⟩
      · exact log2_small (Nat.lt_of_lt_of_le hb (Nat.pow_le_pow_right (by decide) (by decide)))
      have nHp : H p = none := k2.back D2 np
      have D3 := D2.new (o := .tup [.int i]) np
      have k3 := k2.new (o := .tup [.int i]) np
      have e3 : (upd H2 p (.tup [.int i])) p = some (.tup [.int i]) := upd_same
      generalize upd H2 p (.tup [.int i]) = H3 at D3 k3 e3
      refine ⟨_, rfl, by show 1 ≤ sizeLine; decide, fun p2 np2 => ?_⟩
      have nHp2 : H p2 = none := k3.back D3 np2
      have D4 := D3.new (o := .lst [.int i]) np2
      have k4 := k3.new (o := .lst [.int i]) np2
      have e4 : (upd H3 p2 (.lst [.int i])) p = some (.tup [.int i]) := Evl.Ex.new np2 _ _ e3
      have e5 : (upd H3 p2 (.lst [.int i])) p2 = some (.lst [.int i]) := upd_same
      generalize upd H3 p2 (.lst [.int i]) = H4 at D4 k4 e4 e5
      refine ⟨_, rfl, i, 4, rfl, rfl, by show 10 ≤ sizeLine; decide, fun p3 np3 => ?_⟩
      have sI := sz_int hb
      have e6 := Evl.Ex.new (o := .lst [.int 0, .int (-i), .int (i - 1), .int (i + 1), .bl (i != 0), .str (toString i : String), .ref p, .ref p2, .non, .int (i + 4)]) np3 _ _ e4
      have e7 := Evl.Ex.new (o := .lst [.int 0, .int (-i), .int (i - 1), .int (i + 1), .bl (i != 0), .str (toString i : String), .ref p, .ref p2, .non, .int (i + 4)]) np3 _ _ e5
      refine ⟨d, l, p3, _, rfl, D4.new np3, upd_same, (D4.off np3).1, (D4.off np3).2, by show 0 < 10; decide, by show 10 ≤ 1000; decide, pick_dd (F := fun a => H a = none) (D4.new np3) (k4.new np3) offF ?_ q⟩
      refine all_cons ⟨_, .int _, hbig _ (by omega)⟩ (all_cons ⟨_, .int _, hbig _ (by omega)⟩ (all_cons ⟨_, .int _, hbig _ (by omega)⟩ (all_cons ⟨_, .int _, hbig _ (by omega)⟩ (all_cons ⟨_, .bl _, (sz_bool _).mono (Nat.le_trans (by decide) (bc_ge b)) (Nat.le_trans (by decide) (bm_ge b))⟩
        (all_cons ⟨_, .str _, (sz_text hb).mono (Nat.le_trans (by decide) (bc_ge b)) (Nat.le_trans (by decide) (bm_ge b))⟩ (all_cons ⟨_, .tup e6 (.cons (.int i) .nil), (sza_cons sI sza_nil).tuple.mono (Nat.le_trans (by decide) (bc_ge b)) (Nat.le_trans (by decide) (bm_ge b))⟩ (all_cons ⟨_, .lst nHp2 e7 (.cons (.int i) .nil), (sza_cons sI sza_nil).list.mono (Nat.le_trans (by decide) (bc_ge b)) (Nat.le_trans (by decide) (bm_ge b))⟩
        (all_cons ⟨_, .non, sz_none.mono (Nat.le_trans (by decide) (bc_ge b)) (Nat.le_trans (by decide) (bm_ge b))⟩ (all_cons ⟨_, .int _, hbig _ (by omega)⟩ all_nil)))))))))
    · -- a tuple of integers
      have hl10 := bn.1
      have szI : ∀ ms : List Int, ms.length ≤ 20 → (∀ m ∈ ms, m.natAbs < 2 ^ 240) → SzA 20 0 (ms.map PyData.int) := fun ms h1 h2 => by
        have h := sza_of (ds := ms.map PyData.int) (n := 0) (m := 0) fun y hy => by
          obtain ⟨n, hn, rfl⟩ := List.mem_map.mp hy
          exact sz_int (lt250 (h2 n hn))
        exact h.mono (by rw [List.length_map]; omega) (Nat.le_refl _)
      have fin : ∀ (ms : List Int) (p : Addr) (H' : Hp), H' p = some (.tup (ms.map V.int)) → ms.length ≤ 20 → (∀ m ∈ ms, m.natAbs < 2 ^ 240) → Deck d l H' → Kp d l H H' → Q (.ref p) H' := fun ms p H' ep h1 h2 D' k' =>
        q _ _ H' (.tup ep (dd_ints ms)) ((szI ms h1 h2).tuple.mono (by decide) (by decide)) D' k'
      have atK : ∀ {H' : Hp}, Kp d l H H' → H' a = some (.tup (ns.map V.int)) := fun {H'} k => by
        obtain ⟨ns', m, z, _, e1, e2⟩ := D.ex
        exact k a _ ea (ne_of ea e1 (by intro z; cases z)) (ne_of ea e2 (by intro z; cases z))
      have go : ∀ (Q' : Bool → Hp → Prop), (∀ H1, Deck d l H1 → Kp d l H H1 → Q' true H1) → (∀ H1, ns ≠ [] → Deck d l H1 → Kp d l H H1 → Q' false H1) →
          tOr (tNot (tB (tCB (rIsi K) (tCons (tVar 1) (tCons (tC (.ty "tuple")) tNil))))) (tOr (tTest (tOp (rEqD K) (tVar 1) (tTup tNil))) (tOr (tTest (tOp rEq (tVar 2) (tC (.int 0)))) (tTest (tOp rEq (tCall spDraw [] E0 (tCons (tVar 0) (tCons (tC (.int 5)) tNil))) (tC (.int 0))))))
            (L2.start ["deck", "thing", "deep", "way", "at"] [.ref d, .ref a, .int deep]) H Q' := fun Q' qt qf => by
        refine ⟨_, rfl, _, _, _, _, _, rfl, .ty _, .base (.tup ea), kit_ty (show kitB "tuple" "tuple" = some true by decide +kernel), _, rfl, iteF ?_⟩
        refine ⟨_, rfl, Nat.zero_le _, fun p np => ?_⟩
        have k1 := (Kp.refl (d := d) (l := l) H).new (o := .tup []) np
        have D1 := D.new (o := .tup []) np
        refine ⟨_, _, .tup (SqT.of (atK k1)) (dp_ints ns), .tup (SqT.of upd_same) (dp_ints []), shaped_tup ns, shaped_tup [], ?_⟩
        generalize upd H p (.tup []) = H1 at k1 D1
        rw [eqv_ints]
        refine ⟨_, rfl, ite2 (fun _ => by exact qt H1 D1 k1) (fun hne => ?_)⟩
        have hne : ns ≠ [] := fun z => hne (decide_eq_true z)
        refine ⟨_, rfl, rfl, _, rfl, ite2 (fun _ => by exact qt H1 D1 k1) (fun _ => ?_)⟩
        refine ⟨_, rfl, d, l, 5, rfl, by decide, by decide, D1, fun r H2 _ _ D2 k2 => ⟨rfl, _, rfl, ?_⟩⟩
        cases decide (V.int r = V.int 0) with
        | true => exact qt H2 D2 (k1.trans k2)
        | false => exact qf H2 hne D2 (k1.trans k2)
      refine ⟨fun σ' H' => ns ≠ [] ∧ σ' = [some (.ref d), some (.ref a), some (.int deep), none, none] ∧ Deck d l H' ∧ Kp d l H H', go _ (fun H1 D1 k1 => iteT ?_) (fun H1 hne D1 k1 => iteF ⟨hne, rfl, D1, k1⟩), ?_⟩
      · refine ⟨_, rfl, d, l, 14, rfl, by decide, by decide, D1, fun r H2 _ _ D2 k2 => ?_⟩
        have k2 := k1.trans k2
        have e2 := atK k2
        refine ⟨_, rfl, .ref a, fun _ => True, .tuple (ns.map .int), rfl, .tup e2 (dd_ints ns), _, rfl, iteF ?_⟩
        -- way == 0
        refine ⟨_, rfl, rfl, _, rfl, ite2 (fun h => ?_) (fun _ => ?_)⟩
        · refine iteT ⟨_, rfl, d, l, 2, rfl, by decide, D2, fun v e H' hv zv D' k' => ?_⟩
          exact q v e H' (hv.mono fun x hx => k2.back D2 hx) (zv.mono (by decide) (by decide)) D' (k2.trans k')
        refine ⟨_, rfl, _, _, _, _, _, rfl, .ty _, .base (.tup e2), kit_ty (show kitB "tuple" "tuple" = some true by decide +kernel), _, rfl, iteF ?_⟩
        -- way < 4
        refine ⟨_, rfl, r, 4, rfl, rfl, _, rfl, ite2 (fun _ => ?_) (fun _ => ?_)⟩
        · refine ⟨_, rfl, a, _, rfl, .inr (SqT.of e2), fun p np => ?_⟩
          exact q _ _ _ (.lst (k2.back D2 np) upd_same (dd_ints ns)) ((szI ns (by omega) bn.2).list.mono (by decide) (by decide)) (D2.new np) (k2.new np)
        -- way < 6
        refine ⟨_, rfl, r, 6, rfl, rfl, _, rfl, ite2 (fun _ => ?_) (fun _ => ?_)⟩
        · refine ⟨_, rfl, _, rfl, Nat.zero_le _, fun p np => ?_⟩
          have D3 := D2.new (o := .tup []) np
          have k3 := k2.new (o := .tup []) np
          have e3 : (upd H2 p (.tup [])) p = some (.tup []) := upd_same
          generalize upd H2 p (.tup []) = H3 at D3 k3 e3
          refine ⟨by show 1 ≤ sizeLine; decide, fun p2 np2 => ?_⟩
          have D4 := D3.new (o := .tup [.int 0]) np2
          have k4 := k3.new (o := .tup [.int 0]) np2
          have e4 : (upd H3 p2 (.tup [.int 0])) p = some (.tup []) := Evl.Ex.new np2 _ _ e3
          have e5 : (upd H3 p2 (.tup [.int 0])) p2 = some (.tup [.int 0]) := upd_same
          generalize upd H3 p2 (.tup [.int 0]) = H4 at D4 k4 e4 e5
          refine ⟨by show 6 ≤ sizeLine; decide, fun p3 np3 => ?_⟩
          have e6 := Evl.Ex.new (o := .lst [.ref p, .int 0, .int 1, .ref p2, .non, .bl true]) np3 _ _ e4
          have e7 := Evl.Ex.new (o := .lst [.ref p, .int 0, .int 1, .ref p2, .non, .bl true]) np3 _ _ e5
          refine ⟨d, l, p3, _, rfl, D4.new np3, upd_same, (D4.off np3).1, (D4.off np3).2, by show 0 < 6; decide, by show 6 ≤ 1000; decide, fun j v H5 ev D5 k5 => ?_⟩
          have k5 := (k4.new np3).trans k5
          have hL : ∀ v ∈ [V.ref p, .int 0, .int 1, .ref p2, .non, .bl true], ∃ e, Dd (fun a => H a = none) H5 v e ∧ Sz 10 2 e := by
            have e8 : H5 p = some (.tup []) := by
              obtain ⟨ns', m, z, _, f1, f2⟩ := (D4.new np3).ex
              exact ‹Kp d l _ H5› p _ e6 (ne_of e6 f1 (by intro z; cases z)) (ne_of e6 f2 (by intro z; cases z))
            have e9 : H5 p2 = some (.tup [.int 0]) := by
              obtain ⟨ns', m, z, _, f1, f2⟩ := (D4.new np3).ex
              exact ‹Kp d l _ H5› p2 _ e7 (ne_of e7 f1 (by intro z; cases z)) (ne_of e7 f2 (by intro z; cases z))
            exact all_cons ⟨_, .tup e8 .nil, (sza_nil (m := 0)).tuple.mono (by decide) (by decide)⟩ (all_cons ⟨_, .int 0, (sz_int (by decide)).mono (by decide) (by decide)⟩ (all_cons ⟨_, .int 1, (sz_int (by decide)).mono (by decide) (by decide)⟩
              (all_cons ⟨_, .tup e9 (.cons (.int 0) .nil), (sza_cons (sz_int (by decide)) sza_nil).tuple.mono (by decide) (by decide)⟩ (all_cons ⟨_, .non, sz_none.mono (by decide) (by decide)⟩ (all_cons ⟨_, .bl _, (sz_bool _).mono (by decide) (by decide)⟩ all_nil)))))
          obtain ⟨e, hv, zv⟩ := hL v (List.mem_of_getElem? ev)
          refine ⟨by show 1 ≤ sizeLine; decide, fun p4 np4 => ?_⟩
          have D6 := D5.new (o := .tup [v]) np4
          have k6 := k5.new (o := .tup [v]) np4
          have hv6 := Dd.keep (new_keep (o := .tup [v]) np4) hv
          have e10 : (upd H5 p4 (.tup [v])) p4 = some (.tup [v]) := upd_same
          generalize upd H5 p4 (.tup [v]) = H6 at D6 k6 hv6 e10
          have sv := sza_cons zv sza_nil
          refine ⟨a, p4, _, _, rfl, rfl, SqT.of (atK k6), SqT.of e10, ?_, fun h => ?_, fun _ h => ?_, fun _ _ p5 np5 => ?_⟩
          · rw [List.length_map, List.length_singleton]
            exact Nat.le_of_lt (small1000 (by omega))
          · exact q _ _ _ (.tup e10 (.cons hv6 .nil)) (sv.tuple.mono (by decide) (by decide)) D6 k6
          · cases h
          · refine q _ _ _ (.tup upd_same (dd_app (dd_ints ns) (.cons (Dd.keep (new_keep np5) hv6) .nil))) ((sza_app ((szI ns (by omega) bn.2).mono (Nat.le_refl _) (by decide : 0 ≤ 2)) sv).tuple.mono (by decide) (by decide)) (D6.new np5) (k6.new np5)
        -- way < 9
        refine ⟨_, rfl, r, 9, rfl, rfl, _, rfl, ite2 (fun _ => ?_) (fun _ => ?_)⟩
        · refine ⟨_, rfl, a, _, rfl, SqT.of e2, fun p np => ?_⟩
          refine fin ns.reverse p _ (by rw [upd_same, List.map_reverse]) (by rw [List.length_reverse]; omega) (fun m hm => bn.2 m (List.mem_reverse.mp hm)) (D2.new np) (k2.new np)
        -- way < 11
        refine ⟨_, rfl, r, 11, rfl, rfl, _, rfl, ite2 (fun _ => ?_) (fun _ => ?_)⟩
        · have cat : ∀ (ms : List Int) (p : Addr) (H3 : Hp), H3 p = some (.tup (ms.map V.int)) → ms.length ≤ 10 → (∀ m ∈ ms, m.natAbs < 2 ^ 240) → Deck d l H3 → Kp d l H H3 → rCatA K (.ref a) (.ref p) H3 Q := fun ms p H3 ep hm1 hm2 D3 k3 => by
            refine ⟨a, p, _, _, rfl, rfl, SqT.of (atK k3), SqT.of ep, ?_, fun _ => ?_, fun _ _ => ?_, fun _ _ p5 np5 => ?_⟩
            · rw [List.length_map, List.length_map]
              exact Nat.le_of_lt (small1000 (by omega))
            · exact fin ms p H3 ep (by omega) hm2 D3 k3
            · exact fin ns a H3 (atK k3) (by omega) bn.2 D3 k3
            · exact fin (ns ++ ms) p5 _ (by rw [upd_same, List.map_append]) (by rw [List.length_append]; omega) (fun m hm => (List.mem_append.mp hm).elim (bn.2 m) (hm2 m)) (D3.new np5) (k3.new np5)
          refine ⟨_, rfl, _, rfl, 1, rfl, a, _, rfl, SqT.of e2, fun _ => ?_, fun _ p np => ?_⟩
          · exact cat ns a H2 e2 hl10 bn.2 D2 k2
          · refine cat (ns.take (HT.sIx (ns.map V.int).length (ns.map V.int).length (some 1))) p _ (by rw [upd_same, cut_eq, List.map_take]) (by rw [List.length_take]; omega) (fun m hm => bn.2 m (List.mem_of_mem_take hm)) (D2.new np) (k2.new np)
        -- way < 13
        refine ⟨_, rfl, r, 13, rfl, rfl, _, rfl, ite2 (fun _ => ?_) (fun _ => ?_)⟩
        · refine ⟨_, rfl, 1, rfl, a, _, rfl, SqT.of e2, fun _ => ?_, fun _ p np => ?_⟩
          · exact fin ns a H2 e2 (by omega) bn.2 D2 k2
          · refine fin (ns.drop (HT.sIx (ns.map V.int).length 0 (some 1))) p _ (by rw [upd_same, cut_from, List.map_drop]) (by rw [List.length_drop]; omega) (fun m hm => bn.2 m (List.mem_of_mem_drop hm)) (D2.new np) (k2.new np)
        · refine ⟨_, rfl, by show 1 ≤ sizeLine; decide, fun p np => ?_⟩
          exact q _ _ _ (.tup upd_same (.cons (.tup (atK (k2.new np)) (dd_ints ns)) .nil)) ((sza_cons ((szI ns (by omega) bn.2).tuple) sza_nil).tuple.mono (by decide) (by decide)) (D2.new np) (k2.new np)
      · rintro σ' H1 ⟨hne, rfl, D1, k1⟩
        have hpos : 0 < ns.length := by
          cases ns with
          | nil => exact absurd rfl hne
          | cons _ _ => exact Nat.succ_pos _
        refine ⟨_, rfl, _, rfl, a, _, rfl, .inr (SqT.of (atK k1)), d, l, _, rfl, by rw [List.length_map]; omega, lt18 (by rw [List.length_map]; omega), D1, fun r H2 r0 r1 D2 k2 => ?_⟩
        have k2 := k1.trans k2
        rw [List.length_map] at r1
        have hr : r.toNat < ns.length := by omega
        refine ⟨_, rfl, _, rfl, _, rfl, _, rfl, _, rfl, a, _, r, .int ns[r.toNat], rfl, rfl, SqT.of (atK k2), ?_, _, rfl, deep, 1, rfl, rfl, ?_⟩
        · exact at_of (j := r.toNat) (by omega) (by rw [List.getElem?_map, List.getElem?_eq_getElem hr] <;> rfl)
        refine ⟨d, l, _, _, rfl, D2, .inl ⟨_, rfl, bn.2 _ (List.getElem_mem hr)⟩, fun v e H3 hv zv D3 k3 => ?_⟩
        have k3 := k2.trans k3
        refine ⟨a, ns, r.toNat, v, _, e, _, _, by rw [Int.toNat_of_nonneg r0] <;> rfl, atK k3, bn, hv, zv, hr, fun v' e' H' x' hv' zv' => ?_⟩
        exact q v' e' H' (hv'.mono fun y hy => k2.back D2 hy) (zv'.mono (by decide) (by decide)) (D3.ex' x') (k3.trans (Kp.of x'))
theorem fk_bent (b : Bool) (S : At K mg "_law_bent" sBent) (T : Blt mg) (GD : Fk P w K mg base CX0 1 "_law_draw" ["deck", "many"] spDraw) (GP : Fk P w K mg base CX0 2 "_law_pick" ["deck", "some"] spPick)
    (GA : Fk P w K mg base CX0 5 "_law_any" ["deck", "deep"] (spAny 2)) (GI : Fk P w K mg base CX0 1 "_law_is_integer" ["thing"] spIsInt) (GN : Fk P w K mg base CX0 1 "_law_instead" ["some", "at", "item"] spInstead) :
    Fk P w K mg base CX0 8 "_law_bent" ["deck", "thing", "deep"] (spBent b) := by
  have g0 : Fk P w K mg base CX0 7 "_law_bent" ["deck", "thing", "deep"] (spBent false) :=
    fk_bentS false (Nat.le_refl 6) S T GD GP GA GI GN (fk_none S fun f fd F => F.binds fun _ _ _ _ _ _ us hl => (match us, hl with | [_, _, _], _ => rfl))
  cases b with
  | false => exact g0.mono (by decide)
  | true => exact fk_bentS true (by decide : 6 ≤ 7) S T GD GP GA GI GN g0
end
end Ey
namespace Ey
open PySem PySem.Spec PyProof.Rows L2
/-! ### rows of integers -/
abbrev sRow : Stmt := topS 22
theorem scRow : FnScope ["deck", "many", "found", "times", "at", "x"] ["deck", "many"] (defScope sRow) := ⟨rfl, rfl, rfl, by decide +kernel, rfl, by decide +kernel, by decide +kernel⟩
def spRow : Sp := fun vs H Q _ => ∃ (d l : Addr) (many : Int), vs = [.ref d, .int many] ∧ 0 ≤ many ∧ many ≤ 10 ∧ Deck d l H ∧
  ∀ (p : Addr) (ns : List Int) (H' : Hp), H p = none → H' p = some (.tup (ns.map V.int)) → (ns.length : Int) = many → Bnd ns → Deck d l H' → Kp d l H H' → Q (.ref p) H'
def Small (v : V) : Prop := ∃ y : Int, v = .int y ∧ y.natAbs < 2 ^ 50
theorem small_of {y : Int} (h : y.natAbs < 2 ^ 50) : Small (.int y) := ⟨y, rfl, h⟩
section
variable {P : Program} {w : World} {K : PySem.W.Frag} {mg : Str → Option Value} {base : Heap}
theorem fk_row (S : At K mg "_law_row" sRow) (T : Blt mg) (GD : Fk P w K mg base CX0 1 "_law_draw" ["deck", "many"] spDraw) (GP : Fk P w K mg base CX0 2 "_law_pick" ["deck", "some"] spPick) : Fk P w K mg base CX0 3 "_law_row" ["deck", "many"] spRow := by
  obtain ⟨f, fd, F, g⟩ := S.ex
  refine ⟨f, fd, F.ok scRow (fun vs H Q E h => ?_) (fun cdv A outer s H vs Q E hr h => ?_), F.binds fun _ _ _ _ _ _ us hl => (match us, hl with | [_, _], _ => rfl), g, F.kp, fun_lk F⟩
  · obtain ⟨d, l, z, rfl, _⟩ := h
    rfl
  · obtain ⟨d, l, many, rfl, m0, m1, D, q⟩ := h
    have h1 : Room 1 (A.deeper (envOfC "_law_row" (defScope sRow) s.heap.objs.size f cdv)) := hr.mono (by omega)
    refine ⟨_, Evl.pss_cut (ps_setLc (i := 2) (own := [("at", 4)]) (g := gName 4) (tt := tYes) rfl scRow.nd rfl rfl (sw_true rfl rfl rfl (by decide +kernel)) (pi_range1 rfl T.range (pa_cons (pv 1) pa_nil))
            (blkOk_by (own := [("at", 4)]) (N := ["deck", "many", "found", "times", "at", "x"]) (sc := defScope sRow) (by decide +kernel)) (fun _ _ _ _ _ => pg_name (i := 4) scRow.nd rfl (Or.inl rfl)) (fun _ _ _ _ _ => pts_nil)
            (fun _ _ _ _ _ => pe_cl GP hr (by rfl) pass0 (pa_cons (pv 0) (pa_cons (pe_lst (pa_cons (pe_op op_sub (pe_cl GD h1 (by rfl) pass0 (pa_cons (pv 0) (pa_cons pe_int pa_nil))) pe_int) (pa_cons pe_int (pa_cons pe_int (pa_cons (pe_un un_neg pe_int) (pa_cons pe_int
              (pa_cons (pe_un un_neg pe_int) (pa_cons (pe_cl GD h1 (by rfl) pass0 (pa_cons (pv 0) (pa_cons (pe_op op_pow pe_int pe_int) pa_nil))) (pa_cons (pe_un un_neg (pe_op op_pow pe_int pe_int)) pa_nil))))))))) pa_nil))))
      (pss_cons (ps_set (i := 3) scRow.nd rfl (.inr rfl) (pe_cl GP hr (by rfl) pass0 (pa_cons (pv 0) (pa_cons (pe_lst (pa_cons pe_int (pa_cons pe_int (pa_cons pe_int (pa_cons pe_int (pa_cons pe_int pa_nil)))))) pa_nil))))
      (pss_one (ps_ret (pe_callTy call_tuple_of (by rfl) T.tuple (by decide +kernel) (pa_cons (pe_lc (own := [("x", 5)]) (g := gName 5) (tt := tYes) rfl scRow.nd (pi_list (pv 2))
            (blkOk_by (own := [("x", 5)]) (N := ["deck", "many", "found", "times", "at", "x"]) (sc := defScope sRow) (by decide +kernel)) (fun _ _ _ _ _ => pg_name (i := 5) scRow.nd rfl (Or.inl rfl)) (fun _ _ _ _ _ => pts_nil)
            (fun _ _ _ _ _ => pe_op op_mul (pv 5) (pv 3))) pa_nil))))), ?_⟩
    refine ⟨fun σ' H' => ∃ (p : Addr) (ns : List Int) (x : Option V), σ' = [some (.ref d), some (.int many), some (.ref p), none, x, none] ∧ H p = none ∧ H' p = some (.lst (ns.map V.int)) ∧ (ns.length : Int) = many ∧ (∀ y ∈ ns, y.natAbs < 2 ^ 50) ∧ Deck d l H' ∧ Kp d l H H', ?_, ?_⟩
    · refine ⟨_, rfl, many, rfl, by omega, by omega, fun p np => ?_⟩
      have offp := D.off np
      refine lc_range (lo := 0) (n := many.toNat) (fun i H' => ∃ ns : List Int, ns.length = i ∧ H' p = some (.lst (ns.map V.int)) ∧ (∀ y ∈ ns, y.natAbs < 2 ^ 50) ∧ Deck d l H' ∧ Kp d l H H')
        ⟨[], rfl, upd_same, (fun _ h => nomatch h), D.new np, (Kp.refl H).new np⟩ (fun i Hc hi hp => ?_) (fun H' hp => ?_)
      · obtain ⟨ns, hl, ep, hs, Dc, kc⟩ := hp
        refine ⟨rfl, yes_go ?_⟩
        refine ⟨_, rfl, _, rfl, d, l, 9, rfl, by decide, by decide, Dc, fun r1 H1 r10 r11 D1 k1 => ⟨r1, 4, rfl, rfl, 1, rfl, 12, rfl, _, rfl, 10, 11, rfl, rfl, ⟨by decide, by decide, by decide⟩, d, l, _, rfl, by decide, by decide, D1, fun r2 H2 r20 r21 D2 k2 => ?_⟩⟩
        refine ⟨10, 10, rfl, rfl, ⟨by decide, by decide, by decide⟩, _, rfl, by show 8 ≤ sizeLine; decide, fun a na => ⟨d, l, a, _, rfl, D2.new na, upd_same, (D2.off na).1, (D2.off na).2, by show 0 < 8; decide, by show 8 ≤ 1000; decide, fun j v H' hv D' k' => ?_⟩⟩
        have e11 : (10 : Int) ^ (Int.toNat 11) = 100000000000 := by decide
        have hS : Small v := by
          have := List.mem_of_getElem? hv
          refine all_cons (p := Small) (small_of (by omega)) (all_cons (small_of (by decide)) (all_cons (small_of (by decide)) (all_cons (small_of (by decide)) (all_cons (small_of (by decide)) (all_cons (small_of (by decide)) (all_cons (small_of ?_) (all_cons (small_of (by decide)) all_nil))))))) v this
          rw [e11] at r21
          omega
        obtain ⟨y, rfl, hy⟩ := hS
        have kk := (((Kp.trans k1 k2).new na).trans k')
        refine ⟨_, kk p _ ep offp.1 offp.2, ?_, ns ++ [y], by rw [List.length_append, hl] <;> rfl, by rw [upd_same, List.map_append] <;> rfl, fun z hz => (List.mem_append.mp hz).elim (hs z) (fun h => by rw [List.mem_singleton.mp h]; exact hy), D'.upd offp, (kc.trans kk).mut np⟩
        rw [List.length_map, hl]
        exact small1000 (by omega)
      · obtain ⟨ns, hl, ep, hs, Dc, kc⟩ := hp
        exact ⟨p, ns, none, rfl, np, ep, by omega, hs, Dc, kc⟩
    · rintro σ' H1 ⟨p, ns, x, rfl, np, ep, hl, hs, D1, k1⟩
      refine ⟨_, rfl, by show 5 ≤ sizeLine; decide, fun a na => ⟨d, l, a, _, rfl, D1.new na, upd_same, (D1.off na).1, (D1.off na).2, by show 0 < 5; decide, by show 5 ≤ 1000; decide, fun j v H2 hv D2 k2 => ?_⟩⟩
      have hT : ∃ t : Int, v = .int t ∧ t.natAbs ≤ 7 := by
        have := List.mem_of_getElem? hv
        exact all_cons (p := fun v => ∃ t : Int, v = .int t ∧ t.natAbs ≤ 7) ⟨_, rfl, by decide⟩ (all_cons ⟨_, rfl, by decide⟩ (all_cons ⟨_, rfl, by decide⟩ (all_cons ⟨_, rfl, by decide⟩ (all_cons ⟨_, rfl, by decide⟩ all_nil)))) v this
      obtain ⟨t, rfl, ht⟩ := hT
      have k2 := (k1.new na).trans k2
      have offp := D.off np
      have kk := ‹Kp d l (upd H1 a _) H2›
      have ep2 : H2 p = some (.lst (ns.map V.int)) := kk p _ (Evl.Ex.new na _ _ ep) offp.1 offp.2
      refine ⟨_, rfl, p, rfl, ⟨_, SqL.of ep2⟩, fun b nb => lc_list (xs := ns.map V.int) (fun i H' => Evl.Ex H2 H' ∧ H' b = some (.lst (((ns.map (· * t)).take i).map V.int))) ⟨Evl.Ex.new nb, upd_same⟩ (fun i H' _ h => SqL.of (h.1 _ _ ep2)) (fun i y H' hy h => ?_) (fun H' h => ?_)⟩
      · obtain ⟨n, hn, rfl⟩ := ints_at hy
        refine ⟨rfl, yes_go ?_⟩
        refine ⟨_, rfl, _, rfl, n, t, rfl, rfl, .inr ⟨by omega, by omega⟩, _, h.2, ?_, h.1.mut nb, ?_⟩
        · rw [List.length_map, List.length_take]
          exact Nat.lt_of_le_of_lt (Nat.min_le_right _ _) (by rw [List.length_map]; exact small1000 (by omega))
        · have e1 : (ns.map (· * t))[i]? = some (n * t) := by rw [List.getElem?_map, hn] <;> rfl
          rw [upd_same, List.take_add_one, e1, List.map_append] <;> rfl
      · have e1 : (ns.map (· * t)).take (ns.map V.int).length = ns.map (· * t) := List.take_of_length_le (by rw [List.length_map, List.length_map]; exact Nat.le_refl _)
        rw [e1] at h
        refine ⟨b, _, rfl, .inl ⟨SqL.of h.2, fun c nc => ?_⟩⟩
        refine q c _ _ (k2.back D2 (Evl.fresh_back h.1 nc)) upd_same (by rw [List.length_map]; exact hl) ⟨by rw [List.length_map]; omega, fun m hm => ?_⟩ ((D2.ex' h.1).new nc) ((k2.trans (Kp.of h.1)).new nc)
        obtain ⟨n, hn, rfl⟩ := List.mem_map.mp hm
        have := hs n hn
        show (n * t).natAbs < 2 ^ 240
        rw [Int.natAbs_mul]
        exact Nat.lt_of_le_of_lt (Nat.mul_le_mul (Nat.le_of_lt this) ht) (by decide)
end
end Ey
namespace Ey
open PySem PySem.Spec PyProof.Rows L2
/-! ### the law -/
abbrev sLaw : Stmt := topS 23
theorem scLaw : FnScope ["script", "deck", "turn", "thing", "due", "text"] ["script"] (defScope sLaw) := ⟨rfl, rfl, rfl, by decide +kernel, rfl, by decide +kernel, by decide +kernel⟩
/-- three answers -/
def T3 (e : PyData) : PyData := .tuple [.bool (isPlace e), .bool (isLine e), .bool (isDir e)]
theorem t3_sz (e : PyData) : Sz 7000 50 (T3 e) := (sza_cons (sz_bool _) (sza_cons (sz_bool _) (sza_cons (sz_bool _) sza_nil))).tuple.mono (by decide) (by decide)
theorem str_same {x : Str} : (!decide (V.str x = V.str x)) = false := by rw [decide_eq_true rfl] <;> rfl
/-- what stands between the statements -/
def Mid (a d l : Addr) (σ : L2.St) (H : Hp) : Prop := ∃ (t : Option V) (v : V) (e : PyData) (x y : Option V), σ = [some (.ref a), some (.ref d), t, some v, x, y] ∧ Deck d l H ∧ Dd (fun b => b ≠ d ∧ b ≠ l) H v e ∧ Sz 600 20 e
section
variable {P : Program} {w : World} {K : PySem.W.Frag} {mg : Str → Option Value} {base : Heap}
theorem law_ok {fa : Addr} {fd : FuncData} (F : Fun K "law" "law" sLaw fa fd) (T : Blt mg) (GK : Fk P w K mg base CX0 1 "_law_deck" ["script", "seed"] (spDeck K)) (GD : Fk P w K mg base CX0 1 "_law_draw" ["deck", "many"] spDraw) (GP : Fk P w K mg base CX0 2 "_law_pick" ["deck", "some"] spPick)
    (GA : Fk P w K mg base CX0 6 "_law_any" ["deck", "deep"] (spAny 3)) (GB : Fk P w K mg base CX0 8 "_law_bent" ["deck", "thing", "deep"] (spBent true)) (GR : Fk P w K mg base CX0 3 "_law_row" ["deck", "many"] spRow) (GL : Fk P w K mg base CX0 2 "_law_least" ["row"] (spLeast K))
    (G1 : Fk P w K mg base CX0 3 "is_place" ["thing"] (spIs isPlace)) (G2 : Fk P w K mg base CX0 3 "is_line" ["thing"] (spIs isLine)) (G3 : Fk P w K mg base CX0 3 "is_direction" ["thing"] (spIs isDir))
    (L1 : Fk P w K mg base CX0 3 "_law_is_place" ["thing"] (spIs isPlace)) (L2' : Fk P w K mg base CX0 3 "_law_is_line" ["thing"] (spIs isLine)) (L3 : Fk P w K mg base CX0 3 "_law_is_direction" ["thing"] (spIs isDir))
    (S1 : At K mg "is_place" sIsPlace) (S2 : At K mg "is_line" sIsLine) (S3 : At K mg "is_direction" sIsDir)
    (B1 : KwOf K "is_place" sIsPlace ["thing"] ["thing"] [0]) (B2 : KwOf K "is_line" sIsLine ["thing"] ["thing"] [0]) (B3 : KwOf K "is_direction" sIsDir ["thing"] ["thing"] [0]) : LawOk P w K mg base fa := by
  intro s H a ns e0 hS hl
  have bL := F.binds (ps := ["script"]) fun _ _ _ _ _ _ us hl => (match us, hl with | [_], _ => rfl)
  refine fn_at (k := 9) F scLaw ⟨rfl, by decide, by decide⟩ (vs := [.ref a]) rfl e0 (bL s [.ref a] (e0.mod.kin.keeps fun b o e => (e0.bs b o e).1) rfl) (.cons rfl .nil) fun cdv => ?_
  have hr : Room 9 (callerA.deeper (envOfC "law" (defScope sLaw) s.heap.objs.size fa cdv)) := Room.deeper ⟨rfl, by decide, by decide⟩ _
  have h8 := hr.mono (by decide : 8 ≤ 9)
  have h6 := hr.mono (by decide : 6 ≤ 9)
  have h3 := hr.mono (by decide : 3 ≤ 9)
  have h2 := hr.mono (by decide : 2 ≤ 9)
  have h1 := hr.mono (by decide : 1 ≤ 9)
  refine ⟨_, pss_cons (ps_set (i := 1) scLaw.nd rfl (.inl rfl) (pe_cl GK h1 (by rfl) pass0 (pa_cons (pv 0) (pa_cons pe_int pa_nil))))
    (pss_cons (ps_for PassesOwn.never rfl (pi_range1 rfl T.range (pa_cons pe_int pa_nil)) (pg_name (i := 2) scLaw.nd rfl (.inl rfl))
      (pss_cons (ps_set (i := 3) scLaw.nd rfl (.inl rfl) (pe_cl GR h3 (by rfl) pass0 (pa_cons (pv 1) (pa_cons (pe_cl GP h2 (by rfl) pass0 (pa_cons (pv 1) (pa_cons (pe_lst (pa_cons pe_int (pa_cons pe_int (pa_cons pe_int (pa_cons pe_int (pa_cons pe_int (pa_cons pe_int pa_nil))))))) pa_nil))) pa_nil))))
      (Evl.pss_cut (ps_if (PW.pt (pw_and (pt_cmpR op_eq (pe_cl GD h1 (by rfl) pass0 (pa_cons (pv 1) (pa_cons pe_int pa_nil))) pe_int (nomark _)) (pw_and1 (pt_cmpR (op_neD hr.units) (pv 3) (pe_op op_rep0 (pe_tup (pa_cons pe_int pa_nil)) (pe_callB call_len_seq (by rfl) T.len PySem.boot_len (pa_cons (pv 3) pa_nil))) (nomark _)))))
        (pss_one (ps_set (i := 3) scLaw.nd rfl (.inl rfl) (pe_cl GL h2 (by rfl) pass0 (pa_cons (pv 3) pa_nil)))) pss_nil)
      (Evl.pss_cut (ps_if (pt_cmpR op_eq (pe_cl GD h1 (by rfl) pass0 (pa_cons (pv 1) (pa_cons pe_int pa_nil))) pe_int (nomark _)) (pss_one (ps_set (i := 3) scLaw.nd rfl (.inl rfl) (pe_cl GB h8 (by rfl) pass0 (pa_cons (pv 1) (pa_cons (pv 3) (pa_cons pe_int pa_nil)))))) pss_nil)
      (Evl.pss_cut (ps_if (pt_cmpR op_eq (pe_cl GD h1 (by rfl) pass0 (pa_cons (pv 1) (pa_cons pe_int pa_nil))) pe_int (nomark _)) (pss_one (ps_set (i := 3) scLaw.nd rfl (.inl rfl) (pe_cl GA h6 (by rfl) pass0 (pa_cons (pv 1) (pa_cons pe_int pa_nil))))) pss_nil)
      (pss_cons (ps_set (i := 4) scLaw.nd rfl (.inl rfl) (pe_callB (cr_repr rfl hr.units) (by rfl) T.repr (by decide +kernel) (pa_cons (pe_tup (pa_cons (pe_cl L1 h3 (by rfl) pass0 (pa_cons (pv 3) pa_nil)) (pa_cons (pe_cl L2' h3 (by rfl) pass0 (pa_cons (pv 3) pa_nil)) (pa_cons (pe_cl L3 h3 (by rfl) pass0 (pa_cons (pv 3) pa_nil)) pa_nil)))) pa_nil)))
      (pss_cons (ps_if (pt_cmpR op_ne (pe_callB (cr_repr rfl hr.units) (by rfl) T.repr (by decide +kernel) (pa_cons (pe_tup (pa_cons (pe_cl G1 h3 (by rfl) pass0 (pa_cons (pv 3) pa_nil)) (pa_cons (pe_cl G2 h3 (by rfl) pass0 (pa_cons (pv 3) pa_nil)) (pa_cons (pe_cl G3 h3 (by rfl) pass0 (pa_cons (pv 3) pa_nil)) pa_nil)))) pa_nil)) (pv 4) (nomark _)) (pss_one (ps_ret pe_bl)) pss_nil)
      (pss_cons (ps_set (i := 5) scLaw.nd rfl (.inl rfl) (pe_callB (cr_repr rfl hr.units) (by rfl) T.repr (by decide +kernel) (pa_cons (pv 3) pa_nil)))
      (pss_one (ps_if (PW.pt (pw_or (pt_cmpR op_ne (pe_callB (cr_repr rfl hr.units) (by rfl) T.repr (by decide +kernel) (pa_cons (pe_tup (pa_cons (pe_clk G1 S1 B1 (by decide) h3 (by rfl) pass0 (pk_cons (pv 3) pk_nil)) (pa_cons (pe_clk G2 S2 B2 (by decide) h3 (by rfl) pass0 (pk_cons (pv 3) pk_nil)) (pa_cons (pe_clk G3 S3 B3 (by decide) h3 (by rfl) pass0 (pk_cons (pv 3) pk_nil)) pa_nil)))) pa_nil)) (pv 4) (nomark _))
        (pw_or1 (pt_cmpR op_ne (pe_callB (cr_repr rfl hr.units) (by rfl) T.repr (by decide +kernel) (pa_cons (pv 3) pa_nil)) (pv 5) (nomark _))))) (pss_one (ps_ret pe_bl)) pss_nil))))))))))
    (pss_one (ps_ret pe_bl))), ?_⟩
  refine ⟨_, rfl, a, ns, _, rfl, hS, hl, fun d l H0 D0 x0 _ _ => ?_⟩
  refine ⟨12, rfl, by decide, by decide, for_range (lo := 0) (n := 12) (fun _ σ H' => ∃ t v x y, σ = [some (.ref a), some (.ref d), t, v, x, y] ∧ Deck d l H') ⟨none, none, none, none, rfl, D0⟩ (fun i σ H' hi h => ?_) (fun σ H' h => rfl)⟩
  obtain ⟨t, v, x, y, rfl, D⟩ := h
  -- thing = _law_row(..)
  refine ⟨_, rfl, _, rfl, by show 6 ≤ sizeLine; decide, fun p np => ⟨d, l, p, _, rfl, D.new np, upd_same, (D.off np).1, (D.off np).2, by show 0 < 6; decide, by show 6 ≤ 1000; decide, fun j v H2 hv D2 k2 => ?_⟩⟩
  have hm : ∃ m : Int, v = .int m ∧ 1 ≤ m ∧ m ≤ 4 :=
    all_cons (p := fun v => ∃ m : Int, v = .int m ∧ 1 ≤ m ∧ m ≤ 4) ⟨_, rfl, by decide, by decide⟩ (all_cons ⟨_, rfl, by decide, by decide⟩ (all_cons ⟨_, rfl, by decide, by decide⟩ (all_cons ⟨_, rfl, by decide, by decide⟩ (all_cons ⟨_, rfl, by decide, by decide⟩ (all_cons ⟨_, rfl, by decide, by decide⟩ all_nil))))) v (List.mem_of_getElem? hv)
  obtain ⟨m, rfl, m1, m4⟩ := hm
  refine ⟨d, l, m, rfl, by omega, by omega, D2, fun p ns H3 _ ep hlen bn D3 k3 => ?_⟩
  -- if .. and thing != (0,) * len(thing)
  refine ⟨fun σ' H' => ∃ (t : Option V) (p : Addr) (ns : List Int) (x y : Option V), σ' = [some (.ref a), some (.ref d), t, some (.ref p), x, y] ∧ Deck d l H' ∧ H' p = some (.tup (ns.map V.int)) ∧ Bnd ns, ?_, ?_⟩
  · refine ⟨_, rfl, d, l, 2, rfl, by decide, by decide, D3, fun r H4 _ _ D4 k4 => ⟨rfl, _, rfl, ?_⟩⟩
    have ep4 : H4 p = some (.tup (ns.map V.int)) := kp_keep (F := fun _ => False) D3 k4 (fun _ h => h.elim) p _ ep (.inr ⟨_, rfl⟩)
    refine ite2 (fun _ => ?_) (fun _ => iteF ⟨_, p, ns, x, y, rfl, D4, ep4, bn⟩)
    refine ⟨_, rfl, by show 1 ≤ sizeLine; decide, fun q nq => ?_⟩
    have D5 := D4.new (o := .tup [.int 0]) nq
    have ep5 := Evl.Ex.new (o := .tup [.int 0]) nq _ _ ep4
    have eq5 : (upd H4 q (.tup [.int 0])) q = some (.tup [.int 0]) := upd_same
    generalize upd H4 q (.tup [.int 0]) = H5 at D5 ep5 eq5
    refine ⟨_, rfl, p, _, rfl, .inr (SqT.of ep5), q, ns.length, rfl, by rw [List.length_map], eq5, by omega, by omega, fun z H6 x6 ez => ?_⟩
    have D6 := D5.ex' x6
    have ep6 := x6 _ _ ep5
    refine ⟨_, _, .tup (SqT.of ep6) (dp_ints ns), .tup (SqT.of ez) (dp_ints _), shaped_tup ns, shaped_tup _, _, rfl, ?_⟩
    rw [eqv_ints]
    refine ite2 (fun hne => ?_) (fun _ => ⟨_, p, ns, x, y, rfl, D6, ep6, bn⟩)
    have hne : ns ≠ List.replicate ns.length 0 := fun z => by
      rw [decide_eq_true z] at hne
      exact absurd hne (by decide)
    obtain ⟨w1, hw, g0, g1⟩ := gl_pos hne
    refine ⟨_, rfl, p, ns, rfl, SqT.of ep6, by omega, g0, lt250 (Nat.lt_of_le_of_lt g1 (bn.2 w1 hw)), fun p2 H7 _ x7 ep7 => ?_⟩
    refine ⟨_, p2, lowest ns, x, y, rfl, D6.ex' x7, ep7, ?_, fun n hn => ?_⟩
    · unfold lowest
      rw [List.length_map]
      exact bn.1
    · obtain ⟨n', hn', rfl⟩ := List.mem_map.mp hn
      exact Nat.lt_of_le_of_lt (Int.natAbs_ediv_le_natAbs _ _) (bn.2 n' hn')
  rintro σ1 H4 ⟨t, p, ns, x, y, rfl, D4, ep4, bn⟩
  have szT : Sz 600 20 (.tuple (ns.map PyData.int)) := bn.sz.tuple.mono (by decide) (by decide)
  -- bent
  refine ⟨Mid a d l, ?_, ?_⟩
  · refine ⟨_, rfl, d, l, 3, rfl, by decide, by decide, D4, fun r H5 _ _ D5 k5 => ⟨rfl, _, rfl, ?_⟩⟩
    have ep5 : H5 p = some (.tup (ns.map V.int)) := kp_keep (F := fun _ => False) D4 k5 (fun _ h => h.elim) p _ ep4 (.inr ⟨_, rfl⟩)
    refine ite2 (fun _ => ?_) (fun _ => ⟨_, .ref p, _, x, y, rfl, D5, .tup ep5 (dd_ints ns), szT⟩)
    exact ⟨_, rfl, _, rfl, d, l, .ref p, 2, rfl, D5, .inr ⟨rfl, p, ns, rfl, ep5, bn⟩, fun v' e' H' hv zv D' _ => ⟨_, v', e', x, y, rfl, D', hv.mono fun b h => D5.off h, zv⟩⟩
  rintro σ2 H5 ⟨t, v, e, x, y, rfl, D5, hv5, zv5⟩
  -- any
  refine ⟨Mid a d l, ?_, ?_⟩
  · refine ⟨_, rfl, d, l, 10, rfl, by decide, by decide, D5, fun r H6 _ _ D6 k6 => ⟨rfl, _, rfl, ?_⟩⟩
    refine ite2 (fun _ => ?_) (fun _ => ⟨_, v, e, x, y, rfl, D6, hv5.keep (kp_keep D5 k6 fun b h => h), zv5⟩)
    exact ⟨_, rfl, d, l, 3, rfl, by decide, D6, fun v' e' H' hv zv D' _ => ⟨_, v', e', x, y, rfl, D', hv.mono fun b h => D6.off h, zv.mono (by decide) (by decide)⟩⟩
  rintro σ3 H6 ⟨t, v, e, x, y, rfl, D6, hv, zv⟩
  -- due
  refine ⟨_, rfl, v, _, e, _, _, rfl, hv, zv, by decide, fun H7 x7 => ⟨_, rfl, v, _, e, _, _, rfl, hv.keep (ex_keep x7), zv, by decide, fun H8 x8 => ⟨_, rfl, v, _, e, _, _, rfl, hv.keep (ex_keep (x7.trans x8)), zv, by decide, fun H9 x9 => ?_⟩⟩⟩
  have x9 := (x7.trans x8).trans x9
  refine ⟨by show 3 ≤ sizeLine; decide, fun p np => ⟨_, fun _ => True, T3 e, rfl, .tup upd_same (.cons (.bl _) (.cons (.bl _) (.cons (.bl _) .nil))), t3_sz e, ?_⟩⟩
  have xA := x9.trans (Evl.Ex.new (o := .tup [.bl (isPlace e), .bl (isLine e), .bl (isDir e)]) np)
  have DA := D6.ex' xA
  have hA := hv.keep (ex_keep xA)
  generalize upd H9 p (.tup [.bl (isPlace e), .bl (isLine e), .bl (isDir e)]) = HA at DA hA
  -- the program
  refine ⟨_, rfl, v, _, e, _, _, rfl, hA, zv, by decide, fun H7 x7 => ⟨_, rfl, v, _, e, _, _, rfl, hA.keep (ex_keep x7), zv, by decide, fun H8 x8 => ⟨_, rfl, v, _, e, _, _, rfl, hA.keep (ex_keep (x7.trans x8)), zv, by decide, fun H9 x9 => ?_⟩⟩⟩
  have x9 := (x7.trans x8).trans x9
  refine ⟨by show 3 ≤ sizeLine; decide, fun p np => ⟨_, fun _ => True, T3 e, rfl, .tup upd_same (.cons (.bl _) (.cons (.bl _) (.cons (.bl _) .nil))), t3_sz e, ?_⟩⟩
  have xB := x9.trans (Evl.Ex.new (o := .tup [.bl (isPlace e), .bl (isLine e), .bl (isDir e)]) np)
  have DB := DA.ex' xB
  have hB := hA.keep (ex_keep xB)
  generalize upd H9 p (.tup [.bl (isPlace e), .bl (isLine e), .bl (isDir e)]) = HB at DB hB
  refine ⟨_, rfl, rfl, _, rfl, ?_⟩
  rw [str_same]
  refine iteF ?_
  -- text
  refine ⟨_, rfl, v, _, e, rfl, hB, zv.mono (by decide) (by decide), ?_⟩
  -- by name
  refine ⟨_, rfl, rfl, v, _, e, _, _, rfl, hB, zv, by decide, fun H7 x7 => ⟨_, rfl, rfl, v, _, e, _, _, rfl, hB.keep (ex_keep x7), zv, by decide, fun H8 x8 => ⟨_, rfl, rfl, v, _, e, _, _, rfl, hB.keep (ex_keep (x7.trans x8)), zv, by decide, fun H9 x9 => ?_⟩⟩⟩
  have x9 := (x7.trans x8).trans x9
  refine ⟨by show 3 ≤ sizeLine; decide, fun p np => ⟨_, fun _ => True, T3 e, rfl, .tup upd_same (.cons (.bl _) (.cons (.bl _) (.cons (.bl _) .nil))), t3_sz e, ?_⟩⟩
  have xC := x9.trans (Evl.Ex.new (o := .tup [.bl (isPlace e), .bl (isLine e), .bl (isDir e)]) np)
  have DC := DB.ex' xC
  have hC := hB.keep (ex_keep xC)
  generalize upd H9 p (.tup [.bl (isPlace e), .bl (isLine e), .bl (isDir e)]) = HC at DC hC
  refine ⟨_, rfl, rfl, _, rfl, ?_⟩
  rw [str_same]
  refine iteF ⟨_, rfl, v, _, e, rfl, hC, zv.mono (by decide) (by decide), _, rfl, rfl, _, rfl, ?_⟩
  rw [str_same]
  exact iteF ⟨_, _, _, _, rfl, DC⟩
end
end Ey
namespace Ey
open PySem PySem.Spec PyProof.Rows L2
/-! ### what the top has written; the end -/
theorem at_mk {K : PySem.W.Frag} {h : Heap} {mg : Str → Option Value} {x : Str} {st : Stmt} {f : Addr} {oc : Value} {od an : Option Addr} {sl : Array (Option Value)} {kV dc pm cd ct : Value} (X : K.In h) (G : h.Ns mainGlobals mg)
    (a : PySem.W.nsIn K mainGlobals x = some (some (.ref f))) (l : K.lookup f = some ⟨oc, od, .func (PySem.W.fnOf x x (defArgs st) (defBody st) (defScope st) .none kV dc pm an cd ct), sl⟩) (c : PySem.W.codeIn K cd x = true) (k : PySem.W.keepIn K (.ref f) = true) : At K mg x st :=
  ⟨f, _, fun_mk l c k, PySem.W.mg_of X G a⟩
theorem all_mk {P : Program} {w : World} {K : PySem.W.Frag} {h : Heap} {mg : Str → Option Value} {fa : Addr} (X : K.In h) (G : h.Ns mainGlobals mg) (hfa : mg "law" = some (.ref fa))
    {f0 : Addr} {oc0 : Value} {od0 an0 : Option Addr} {sl0 : Array (Option Value)} {kV0 dc0 pm0 cd0 ct0 : Value}
    {f1 : Addr} {oc1 : Value} {od1 an1 : Option Addr} {sl1 : Array (Option Value)} {kV1 dc1 pm1 cd1 ct1 : Value}
    {f2 : Addr} {oc2 : Value} {od2 an2 : Option Addr} {sl2 : Array (Option Value)} {kV2 dc2 pm2 cd2 ct2 : Value}
    {f3 : Addr} {oc3 : Value} {od3 an3 : Option Addr} {sl3 : Array (Option Value)} {kV3 dc3 pm3 cd3 ct3 : Value}
    {f4 : Addr} {oc4 : Value} {od4 an4 : Option Addr} {sl4 : Array (Option Value)} {kV4 dc4 pm4 cd4 ct4 : Value}
    {f5 : Addr} {oc5 : Value} {od5 an5 : Option Addr} {sl5 : Array (Option Value)} {kV5 dc5 pm5 cd5 ct5 : Value}
    {f6 : Addr} {oc6 : Value} {od6 an6 : Option Addr} {sl6 : Array (Option Value)} {kV6 dc6 pm6 cd6 ct6 : Value}
    {f7 : Addr} {oc7 : Value} {od7 an7 : Option Addr} {sl7 : Array (Option Value)} {kV7 dc7 pm7 cd7 ct7 : Value}
    {f8 : Addr} {oc8 : Value} {od8 an8 : Option Addr} {sl8 : Array (Option Value)} {kV8 dc8 pm8 cd8 ct8 : Value}
    {f9 : Addr} {oc9 : Value} {od9 an9 : Option Addr} {sl9 : Array (Option Value)} {kV9 dc9 pm9 cd9 ct9 : Value}
    {f10 : Addr} {oc10 : Value} {od10 an10 : Option Addr} {sl10 : Array (Option Value)} {kV10 dc10 pm10 cd10 ct10 : Value}
    {f11 : Addr} {oc11 : Value} {od11 an11 : Option Addr} {sl11 : Array (Option Value)} {kV11 dc11 pm11 cd11 ct11 : Value}
    {f12 : Addr} {oc12 : Value} {od12 an12 : Option Addr} {sl12 : Array (Option Value)} {kV12 dc12 pm12 cd12 ct12 : Value}
    {f13 : Addr} {oc13 : Value} {od13 an13 : Option Addr} {sl13 : Array (Option Value)} {kV13 dc13 pm13 cd13 ct13 : Value}
    {f14 : Addr} {oc14 : Value} {od14 an14 : Option Addr} {sl14 : Array (Option Value)} {kV14 dc14 pm14 cd14 ct14 : Value}
    {f15 : Addr} {oc15 : Value} {od15 an15 : Option Addr} {sl15 : Array (Option Value)} {kV15 dc15 pm15 cd15 ct15 : Value}
    {f16 : Addr} {oc16 : Value} {od16 an16 : Option Addr} {sl16 : Array (Option Value)} {kV16 dc16 pm16 cd16 ct16 : Value}
    {f17 : Addr} {oc17 : Value} {od17 an17 : Option Addr} {sl17 : Array (Option Value)} {kV17 dc17 pm17 cd17 ct17 : Value}
    {f18 : Addr} {oc18 : Value} {od18 an18 : Option Addr} {sl18 : Array (Option Value)} {kV18 dc18 pm18 cd18 ct18 : Value}
    {f19 : Addr} {oc19 : Value} {od19 an19 : Option Addr} {sl19 : Array (Option Value)} {kV19 dc19 pm19 cd19 ct19 : Value}
    (a0 : PySem.W.nsIn K mainGlobals "is_integer" = some (some (.ref f0))) (l0 : K.lookup f0 = some ⟨oc0, od0, .func (PySem.W.fnOf "is_integer" "is_integer" (defArgs sIsInt) (defBody sIsInt) (defScope sIsInt) .none kV0 dc0 pm0 an0 cd0 ct0), sl0⟩) (c0 : PySem.W.codeIn K cd0 "is_integer" = true) (k0 : PySem.W.keepIn K (.ref f0) = true)
    (a1 : PySem.W.nsIn K mainGlobals "is_tuple_of_integers" = some (some (.ref f1))) (l1 : K.lookup f1 = some ⟨oc1, od1, .func (PySem.W.fnOf "is_tuple_of_integers" "is_tuple_of_integers" (defArgs sIsTup) (defBody sIsTup) (defScope sIsTup) .none kV1 dc1 pm1 an1 cd1 ct1), sl1⟩) (c1 : PySem.W.codeIn K cd1 "is_tuple_of_integers" = true) (k1 : PySem.W.keepIn K (.ref f1) = true)
    (a2 : PySem.W.nsIn K mainGlobals "is_place" = some (some (.ref f2))) (l2 : K.lookup f2 = some ⟨oc2, od2, .func (PySem.W.fnOf "is_place" "is_place" (defArgs sIsPlace) (defBody sIsPlace) (defScope sIsPlace) .none kV2 dc2 pm2 an2 cd2 ct2), sl2⟩) (c2 : PySem.W.codeIn K cd2 "is_place" = true) (k2 : PySem.W.keepIn K (.ref f2) = true)
    (a3 : PySem.W.nsIn K mainGlobals "is_line" = some (some (.ref f3))) (l3 : K.lookup f3 = some ⟨oc3, od3, .func (PySem.W.fnOf "is_line" "is_line" (defArgs sIsLine) (defBody sIsLine) (defScope sIsLine) .none kV3 dc3 pm3 an3 cd3 ct3), sl3⟩) (c3 : PySem.W.codeIn K cd3 "is_line" = true) (k3 : PySem.W.keepIn K (.ref f3) = true)
    (a4 : PySem.W.nsIn K mainGlobals "is_direction" = some (some (.ref f4))) (l4 : K.lookup f4 = some ⟨oc4, od4, .func (PySem.W.fnOf "is_direction" "is_direction" (defArgs sIsDir) (defBody sIsDir) (defScope sIsDir) .none kV4 dc4 pm4 an4 cd4 ct4), sl4⟩) (c4 : PySem.W.codeIn K cd4 "is_direction" = true) (k4 : PySem.W.keepIn K (.ref f4) = true)
    (a5 : PySem.W.nsIn K mainGlobals "_law_deck" = some (some (.ref f5))) (l5 : K.lookup f5 = some ⟨oc5, od5, .func (PySem.W.fnOf "_law_deck" "_law_deck" (defArgs sDeck) (defBody sDeck) (defScope sDeck) .none kV5 dc5 pm5 an5 cd5 ct5), sl5⟩) (c5 : PySem.W.codeIn K cd5 "_law_deck" = true) (k5 : PySem.W.keepIn K (.ref f5) = true)
    (a6 : PySem.W.nsIn K mainGlobals "_law_draw" = some (some (.ref f6))) (l6 : K.lookup f6 = some ⟨oc6, od6, .func (PySem.W.fnOf "_law_draw" "_law_draw" (defArgs sDraw) (defBody sDraw) (defScope sDraw) .none kV6 dc6 pm6 an6 cd6 ct6), sl6⟩) (c6 : PySem.W.codeIn K cd6 "_law_draw" = true) (k6 : PySem.W.keepIn K (.ref f6) = true)
    (a7 : PySem.W.nsIn K mainGlobals "_law_pick" = some (some (.ref f7))) (l7 : K.lookup f7 = some ⟨oc7, od7, .func (PySem.W.fnOf "_law_pick" "_law_pick" (defArgs sPick) (defBody sPick) (defScope sPick) .none kV7 dc7 pm7 an7 cd7 ct7), sl7⟩) (c7 : PySem.W.codeIn K cd7 "_law_pick" = true) (k7 : PySem.W.keepIn K (.ref f7) = true)
    (a8 : PySem.W.nsIn K mainGlobals "_law_is_integer" = some (some (.ref f8))) (l8 : K.lookup f8 = some ⟨oc8, od8, .func (PySem.W.fnOf "_law_is_integer" "_law_is_integer" (defArgs sLIsInt) (defBody sLIsInt) (defScope sLIsInt) .none kV8 dc8 pm8 an8 cd8 ct8), sl8⟩) (c8 : PySem.W.codeIn K cd8 "_law_is_integer" = true) (k8 : PySem.W.keepIn K (.ref f8) = true)
    (a9 : PySem.W.nsIn K mainGlobals "_law_any" = some (some (.ref f9))) (l9 : K.lookup f9 = some ⟨oc9, od9, .func (PySem.W.fnOf "_law_any" "_law_any" (defArgs sAny) (defBody sAny) (defScope sAny) .none kV9 dc9 pm9 an9 cd9 ct9), sl9⟩) (c9 : PySem.W.codeIn K cd9 "_law_any" = true) (k9 : PySem.W.keepIn K (.ref f9) = true)
    (a10 : PySem.W.nsIn K mainGlobals "_law_instead" = some (some (.ref f10))) (l10 : K.lookup f10 = some ⟨oc10, od10, .func (PySem.W.fnOf "_law_instead" "_law_instead" (defArgs sInstead) (defBody sInstead) (defScope sInstead) .none kV10 dc10 pm10 an10 cd10 ct10), sl10⟩) (c10 : PySem.W.codeIn K cd10 "_law_instead" = true) (k10 : PySem.W.keepIn K (.ref f10) = true)
    (a11 : PySem.W.nsIn K mainGlobals "_law_bent" = some (some (.ref f11))) (l11 : K.lookup f11 = some ⟨oc11, od11, .func (PySem.W.fnOf "_law_bent" "_law_bent" (defArgs sBent) (defBody sBent) (defScope sBent) .none kV11 dc11 pm11 an11 cd11 ct11), sl11⟩) (c11 : PySem.W.codeIn K cd11 "_law_bent" = true) (k11 : PySem.W.keepIn K (.ref f11) = true)
    (a12 : PySem.W.nsIn K mainGlobals "_law_are_integers" = some (some (.ref f12))) (l12 : K.lookup f12 = some ⟨oc12, od12, .func (PySem.W.fnOf "_law_are_integers" "_law_are_integers" (defArgs sLAre) (defBody sLAre) (defScope sLAre) .none kV12 dc12 pm12 an12 cd12 ct12), sl12⟩) (c12 : PySem.W.codeIn K cd12 "_law_are_integers" = true) (k12 : PySem.W.keepIn K (.ref f12) = true)
    (a13 : PySem.W.nsIn K mainGlobals "_law_divisor" = some (some (.ref f13))) (l13 : K.lookup f13 = some ⟨oc13, od13, .func (PySem.W.fnOf "_law_divisor" "_law_divisor" (defArgs sDiv) (defBody sDiv) (defScope sDiv) .none kV13 dc13 pm13 an13 cd13 ct13), sl13⟩) (c13 : PySem.W.codeIn K cd13 "_law_divisor" = true) (k13 : PySem.W.keepIn K (.ref f13) = true)
    (a14 : PySem.W.nsIn K mainGlobals "_law_least" = some (some (.ref f14))) (l14 : K.lookup f14 = some ⟨oc14, od14, .func (PySem.W.fnOf "_law_least" "_law_least" (defArgs sLeast) (defBody sLeast) (defScope sLeast) .none kV14 dc14 pm14 an14 cd14 ct14), sl14⟩) (c14 : PySem.W.codeIn K cd14 "_law_least" = true) (k14 : PySem.W.keepIn K (.ref f14) = true)
    (a15 : PySem.W.nsIn K mainGlobals "_law_is_place" = some (some (.ref f15))) (l15 : K.lookup f15 = some ⟨oc15, od15, .func (PySem.W.fnOf "_law_is_place" "_law_is_place" (defArgs sLIsPlace) (defBody sLIsPlace) (defScope sLIsPlace) .none kV15 dc15 pm15 an15 cd15 ct15), sl15⟩) (c15 : PySem.W.codeIn K cd15 "_law_is_place" = true) (k15 : PySem.W.keepIn K (.ref f15) = true)
    (a16 : PySem.W.nsIn K mainGlobals "_law_is_line" = some (some (.ref f16))) (l16 : K.lookup f16 = some ⟨oc16, od16, .func (PySem.W.fnOf "_law_is_line" "_law_is_line" (defArgs sLIsLine) (defBody sLIsLine) (defScope sLIsLine) .none kV16 dc16 pm16 an16 cd16 ct16), sl16⟩) (c16 : PySem.W.codeIn K cd16 "_law_is_line" = true) (k16 : PySem.W.keepIn K (.ref f16) = true)
    (a17 : PySem.W.nsIn K mainGlobals "_law_is_direction" = some (some (.ref f17))) (l17 : K.lookup f17 = some ⟨oc17, od17, .func (PySem.W.fnOf "_law_is_direction" "_law_is_direction" (defArgs sLIsDir) (defBody sLIsDir) (defScope sLIsDir) .none kV17 dc17 pm17 an17 cd17 ct17), sl17⟩) (c17 : PySem.W.codeIn K cd17 "_law_is_direction" = true) (k17 : PySem.W.keepIn K (.ref f17) = true)
    (a18 : PySem.W.nsIn K mainGlobals "_law_row" = some (some (.ref f18))) (l18 : K.lookup f18 = some ⟨oc18, od18, .func (PySem.W.fnOf "_law_row" "_law_row" (defArgs sRow) (defBody sRow) (defScope sRow) .none kV18 dc18 pm18 an18 cd18 ct18), sl18⟩) (c18 : PySem.W.codeIn K cd18 "_law_row" = true) (k18 : PySem.W.keepIn K (.ref f18) = true)
    (a19 : PySem.W.nsIn K mainGlobals "law" = some (some (.ref f19))) (l19 : K.lookup f19 = some ⟨oc19, od19, .func (PySem.W.fnOf "law" "law" (defArgs sLaw) (defBody sLaw) (defScope sLaw) .none kV19 dc19 pm19 an19 cd19 ct19), sl19⟩) (c19 : PySem.W.codeIn K cd19 "law" = true) (k19 : PySem.W.keepIn K (.ref f19) = true)
    (z0 : PySem.W.nsIn K mainGlobals "int" = some none) (z1 : PySem.W.nsIn K mainGlobals "max" = some none) (z2 : PySem.W.nsIn K mainGlobals "len" = some none) (z3 : PySem.W.nsIn K mainGlobals "list" = some none) (z4 : PySem.W.nsIn K mainGlobals "range" = some none) (z5 : PySem.W.nsIn K mainGlobals "tuple" = some none) (z6 : PySem.W.nsIn K mainGlobals "isinstance" = some none) (z7 : PySem.W.nsIn K mainGlobals "bool" = some none) (z8 : PySem.W.nsIn K mainGlobals "abs" = some none) (z9 : PySem.W.nsIn K mainGlobals "repr" = some none) (z10 : PySem.W.nsIn K mainGlobals "str" = some none) (z11 : PySem.W.nsIn K mainGlobals "all" = some none)
    (zg : PySem.W.nsIn K mainGlobals "gcd" = some (some (.builtin "math.gcd"))) : ∀ base : Heap, K.In base → base.Ns mainGlobals mg → LawOk P w K mg base fa := by
  intro base _ _
  have T : Blt mg := ⟨PySem.W.mg_none_of X G z0, PySem.W.mg_none_of X G z1, PySem.W.mg_none_of X G z2, PySem.W.mg_none_of X G z3, PySem.W.mg_none_of X G z4, PySem.W.mg_none_of X G z5, PySem.W.mg_none_of X G z6, PySem.W.mg_none_of X G z7, PySem.W.mg_none_of X G z8, PySem.W.mg_none_of X G z9, PySem.W.mg_none_of X G z10, PySem.W.mg_none_of X G z11⟩
  have gg := PySem.W.mg_of X G zg
  have S_is_integer : At K mg "is_integer" sIsInt := at_mk X G a0 l0 c0 k0
  have S_is_tuple_of_integers : At K mg "is_tuple_of_integers" sIsTup := at_mk X G a1 l1 c1 k1
  have S_is_place : At K mg "is_place" sIsPlace := at_mk X G a2 l2 c2 k2
  have S_is_line : At K mg "is_line" sIsLine := at_mk X G a3 l3 c3 k3
  have S_is_direction : At K mg "is_direction" sIsDir := at_mk X G a4 l4 c4 k4
  have S__law_deck : At K mg "_law_deck" sDeck := at_mk X G a5 l5 c5 k5
  have S__law_draw : At K mg "_law_draw" sDraw := at_mk X G a6 l6 c6 k6
  have S__law_pick : At K mg "_law_pick" sPick := at_mk X G a7 l7 c7 k7
  have S__law_is_integer : At K mg "_law_is_integer" sLIsInt := at_mk X G a8 l8 c8 k8
  have S__law_any : At K mg "_law_any" sAny := at_mk X G a9 l9 c9 k9
  have S__law_instead : At K mg "_law_instead" sInstead := at_mk X G a10 l10 c10 k10
  have S__law_bent : At K mg "_law_bent" sBent := at_mk X G a11 l11 c11 k11
  have S__law_are_integers : At K mg "_law_are_integers" sLAre := at_mk X G a12 l12 c12 k12
  have S__law_divisor : At K mg "_law_divisor" sDiv := at_mk X G a13 l13 c13 k13
  have S__law_least : At K mg "_law_least" sLeast := at_mk X G a14 l14 c14 k14
  have S__law_is_place : At K mg "_law_is_place" sLIsPlace := at_mk X G a15 l15 c15 k15
  have S__law_is_line : At K mg "_law_is_line" sLIsLine := at_mk X G a16 l16 c16 k16
  have S__law_is_direction : At K mg "_law_is_direction" sLIsDir := at_mk X G a17 l17 c17 k17
  have S__law_row : At K mg "_law_row" sRow := at_mk X G a18 l18 c18 k18
  obtain ⟨fL, fdL, FL, gL⟩ : ∃ (f : Addr) (fd : FuncData), Fun K "law" "law" sLaw f fd ∧ mg "law" = some (.ref f) := (at_mk X G a19 l19 c19 k19 : At K mg "law" sLaw).ex
  cases gL.symm.trans hfa
  have GD := fk_draw (P := P) (w := w) (base := base) S__law_draw T
  have GP := fk_pick S__law_pick T GD
  have GK := fk_deck (P := P) (w := w) (base := base) S__law_deck T
  have GI := fk_isInt (P := P) (w := w) (base := base) S_is_integer T
  have GT := fk_isTup S_is_tuple_of_integers T GI
  have LI := fk_lIsInt (P := P) (w := w) (base := base) S__law_is_integer T
  have LT := fk_lAre S__law_are_integers T LI
  have LD := fk_div (P := P) (w := w) (base := base) S__law_divisor T
  have GN := fk_instead (P := P) (w := w) (base := base) S__law_instead
  have GA := fk_any S__law_any T GD GP
  have kw : ∀ (x : Str) (st : Stmt), (∀ (kV doc pm : Value) (an : Option Addr) (cdv ct u : Value), bindArgs (PySem.W.fnOf x x (defArgs st) (defBody st) (defScope st) .none kV doc pm an cdv ct) ⟨[], [(("thing" : Str), u)]⟩ = pure [(("thing" : Str), u)]) → KwOf K x st ["thing"] ["thing"] [0] := fun x st hb f fd F s ws _ hl => by
    obtain ⟨oc, od, kV, doc, pm, an, cdv, ct, osl, rfl, _, _⟩ := F.ex
    match ws, hl with
    | [u], _ => exact .of_eq (hb kV doc pm an cdv ct u)
  exact law_ok FL T GK GD GP (GA 3) (fk_bent true S__law_bent T GD GP (GA 2) LI GN) (fk_row S__law_row T GD GP) (fk_least S__law_least T LD)
    (fk_isPlace S_is_place gg GT) (fk_isLine S_is_line gg GT) (fk_isDir S_is_direction gg GT) (fk_lIsPlace S__law_is_place LT LD) (fk_lIsLine S__law_is_line LT LD) (fk_lIsDir S__law_is_direction LT LD)
    S_is_place S_is_line S_is_direction (kw _ _ fun _ _ _ _ _ _ _ => rfl) (kw _ _ fun _ _ _ _ _ _ _ => rfl) (kw _ _ fun _ _ _ _ _ _ _ => rfl)
end Ey
open PySem PySem.W PyProof.Rows
set_option maxHeartbeats 0 in
theorem PySem.Challenge.cw_eyeorder_k01_places_lines_and_directions_holds : PySem.Challenge.rw_eyeorder_k01_places_lines_and_directions.Holds := by
  w_on; o_law; k_head; (case hw => w_witness2)
  k_fill
  refine Ey.walk_at (l := PySem.Challenge.rw_eyeorder_k01_places_lines_and_directions) rfl rfl (fun w h Y => PySem.W.kIn_of Y) ?F
  case F =>
    intro w mg fa h KX G hmg
    refine' Ey.all_mk KX G hmg ?a0 ?l0 ?c0 ?k0 ?a1 ?l1 ?c1 ?k1 ?a2 ?l2 ?c2 ?k2 ?a3 ?l3 ?c3 ?k3 ?a4 ?l4 ?c4 ?k4 ?a5 ?l5 ?c5 ?k5 ?a6 ?l6 ?c6 ?k6 ?a7 ?l7 ?c7 ?k7 ?a8 ?l8 ?c8 ?k8 ?a9 ?l9 ?c9 ?k9 ?a10 ?l10 ?c10 ?k10 ?a11 ?l11 ?c11 ?k11 ?a12 ?l12 ?c12 ?k12 ?a13 ?l13 ?c13 ?k13 ?a14 ?l14 ?c14 ?k14 ?a15 ?l15 ?c15 ?k15 ?a16 ?l16 ?c16 ?k16 ?a17 ?l17 ?c17 ?k17 ?a18 ?l18 ?c18 ?k18 ?a19 ?l19 ?c19 ?k19 ?z0 ?z1 ?z2 ?z3 ?z4 ?z5 ?z6 ?z7 ?z8 ?z9 ?z10 ?z11 ?zg
    (case a0 => k_is)
    (case l0 => k_is)
    (case c0 => k_is)
    (case k0 => k_is)
    (case a1 => k_is)
    (case l1 => k_is)
    (case c1 => k_is)
    (case k1 => k_is)
    (case a2 => k_is)
    (case l2 => k_is)
    (case c2 => k_is)
    (case k2 => k_is)
    (case a3 => k_is)
    (case l3 => k_is)
    (case c3 => k_is)
    (case k3 => k_is)
    (case a4 => k_is)
    (case l4 => k_is)
    (case c4 => k_is)
    (case k4 => k_is)
    (case a5 => k_is)
    (case l5 => k_is)
    (case c5 => k_is)
    (case k5 => k_is)
    (case a6 => k_is)
    (case l6 => k_is)
    (case c6 => k_is)
    (case k6 => k_is)
    (case a7 => k_is)
    (case l7 => k_is)
    (case c7 => k_is)
    (case k7 => k_is)
    (case a8 => k_is)
    (case l8 => k_is)
    (case c8 => k_is)
    (case k8 => k_is)
    (case a9 => k_is)
    (case l9 => k_is)
    (case c9 => k_is)
    (case k9 => k_is)
    (case a10 => k_is)
    (case l10 => k_is)
    (case c10 => k_is)
    (case k10 => k_is)
    (case a11 => k_is)
    (case l11 => k_is)
    (case c11 => k_is)
    (case k11 => k_is)
    (case a12 => k_is)
    (case l12 => k_is)
    (case c12 => k_is)
    (case k12 => k_is)
    (case a13 => k_is)
    (case l13 => k_is)
    (case c13 => k_is)
    (case k13 => k_is)
    (case a14 => k_is)
    (case l14 => k_is)
    (case c14 => k_is)
    (case k14 => k_is)
    (case a15 => k_is)
    (case l15 => k_is)
    (case c15 => k_is)
    (case k15 => k_is)
    (case a16 => k_is)
    (case l16 => k_is)
    (case c16 => k_is)
    (case k16 => k_is)
    (case a17 => k_is)
    (case l17 => k_is)
    (case c17 => k_is)
    (case k17 => k_is)
    (case a18 => k_is)
    (case l18 => k_is)
    (case c18 => k_is)
    (case k18 => k_is)
    (case a19 => k_is)
    (case l19 => k_is)
    (case c19 => k_is)
    (case k19 => k_is)
    (case z0 => k_is)
    (case z1 => k_is)
    (case z2 => k_is)
    (case z3 => k_is)
    (case z4 => k_is)
    (case z5 => k_is)
    (case z6 => k_is)
    (case z7 => k_is)
    (case z8 => k_is)
    (case z9 => k_is)
    (case z10 => k_is)
    (case z11 => k_is)
    (case zg => k_is)
