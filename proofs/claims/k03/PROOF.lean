import PyProof.Rows.All
import Wide.All
import OpenK.AllK
import Wide.FinOn
import HandS.ForMost
import HandS.TupAny
import HandS.Deep
import HandS.IsInst
import HandS.Lambda
import HandS.Style
import HandS.Zip
import HandS.ForExc
import HandS.FStrTup
import KE.GoesEnum
import PyProof.Conv_int_bool
import HandS.ExcField
import HandS.Defaults
import HandS.ExcOwn
import KE.KExcIs
import HandS.ExcIs
import HandS.TupMul
import KE.DataMinMax
import KE.DataEq
import KE.GoesZip
import KE.GoesMore
import HandS.AnyAll
import HandS.HotCalls
import PyProof.Rows.CallKwBuiltin
import HandS.TryOnly
import HandS.TupLe
import KE.DatumOrd
import HandS.Property
import HandS.Star
import HandS.Conv
import HandS.SortInts
import PySem.Challenge.RW_marktopples_k03_falls_of_pushes
set_option Elab.async false
set_option linter.all false
set_option maxRecDepth 100000
/-! A pure reading of bodies: values as data, mutable objects by tags. -/
namespace Pf
open PySem PySem.Spec PyProof.Rows L2

/-! ### data -/
/-- what the types are called that isinstance is asked of -/
def kitTys : List String := ["int", "bool", "tuple", "list", "str", "dict"]
/-- what is wanted of a class of the text whose objects are data: its name, its fields' names are no names of its own -/
structure ObC (K : PySem.W.Frag) (C : Addr) (nm : Str) (fs : List Str) : Prop where
  nC : PySem.W.nsIn K mainGlobals nm = some (some (.ref C))
  cl : Cls K C
  ha : PySem.W.findIn K (.ref C) "__class__" = some (some (.builtin "object.__class__"))
  hn : PySem.W.specialIn K (.builtin "object.__class__") "__get__" = some (some (.builtin "getset_descriptor.__get__"))
  htk : PySem.W.takesIn K (.builtin "object.__class__") = some true
  hm : PySem.W.mroIn K C (.type "object") = some true
  no : ∀ n ∈ kitTys, PySem.W.kitOne K (.ref C) (.type n) = some false
  fld : ∀ f ∈ fs, NoAttr K C f
mutual
inductive Dq (K : PySem.W.Frag) (H : Hp) : V → PyData → Prop
  | non : Dq K H .non .none
  | bl (b : Bool) : Dq K H (.bl b) (.bool b)
  | int (i : Int) : Dq K H (.int i) (.int i)
  | str (x : Str) : Dq K H (.str x) (.str x)
  | lst {a : Addr} {xs : List V} {ds : List PyData} (h : H a = some (.lst xs)) (r : Dqs K H xs ds) : Dq K H (.ref a) (.list ds)
  | tup {a : Addr} {xs : List V} {ds : List PyData} (h : SqT K H a xs) (r : Dqs K H xs ds) : Dq K H (.ref a) (.tuple ds)
  | dct {a : Addr} {kvs : List (Key × V)} {ds : List (PyData × PyData)} (h : H a = some (.dK kvs)) (r : Dqk K H kvs ds) : Dq K H (.ref a) (.dict ds)
  /-- an object that is written no more: its class's name, then its fields -/
  | ins {a C dx : Addr} {nm : Str} {fs : List (Str × V)} {ds : List (PyData × PyData)} (h : H a = some (.ins C dx fs)) (hn : ObC K C nm (fs.map (·.1))) (r : Dqf K H fs ds) : Dq K H (.ref a) (.dict ((.none, .str nm) :: ds))
inductive Dqs (K : PySem.W.Frag) (H : Hp) : List V → List PyData → Prop
  | nil : Dqs K H [] []
  | cons {v : V} {vs : List V} {d : PyData} {ds : List PyData} (h : Dq K H v d) (r : Dqs K H vs ds) : Dqs K H (v :: vs) (d :: ds)
inductive Dqk (K : PySem.W.Frag) (H : Hp) : List (Key × V) → List (PyData × PyData) → Prop
  | nil : Dqk K H [] []
  | cons {k : Key} {v : V} {vs : List (Key × V)} {c d : PyData} {ds : List (PyData × PyData)} (hk : Dq K H (kV k) c) (h : Dq K H v d) (r : Dqk K H vs ds) : Dqk K H ((k, v) :: vs) ((c, d) :: ds)
inductive Dqf (K : PySem.W.Frag) (H : Hp) : List (Str × V) → List (PyData × PyData) → Prop
  | nil : Dqf K H [] []
  | cons {f : Str} {v : V} {vs : List (Str × V)} {d : PyData} {ds : List (PyData × PyData)} (h : Dq K H v d) (r : Dqf K H vs ds) : Dqf K H ((f, v) :: vs) ((.str f, d) :: ds)
end

theorem seqT_mono {K : PySem.W.Frag} {H H' : Hp} {a : Addr} {xs : List V} (e : Same H H') (h : SqT K H a xs) : SqT K H' a xs := by
  rcases h with (h | ⟨o, h⟩) | h
  · exact .inl (.inl (e _ _ h))
  · exact .inl (.inr ⟨o, e _ _ h⟩)
  · exact .inr h

section
variable {K : PySem.W.Frag} {H H' : Hp}
mutual
theorem Dq.mono (e : Same H H') : ∀ {v : V} {d : PyData}, Dq K H v d → Dq K H' v d
  | _, _, .non => .non
  | _, _, .bl b => .bl b
  | _, _, .int b => .int b
  | _, _, .str b => .str b
  | _, _, .lst h r => .lst (e _ _ h) (Dqs.mono e r)
  | _, _, .tup h r => .tup (seqT_mono e h) (Dqs.mono e r)
  | _, _, .dct h r => .dct (e _ _ h) (Dqk.mono e r)
  | _, _, .ins h hn r => .ins (e _ _ h) hn (Dqf.mono e r)
theorem Dqs.mono (e : Same H H') : ∀ {v : List V} {d : List PyData}, Dqs K H v d → Dqs K H' v d
  | _, _, .nil => .nil
  | _, _, .cons h r => .cons (Dq.mono e h) (Dqs.mono e r)
theorem Dqk.mono (e : Same H H') : ∀ {v : List (Key × V)} {d : List (PyData × PyData)}, Dqk K H v d → Dqk K H' v d
  | _, _, .nil => .nil
  | _, _, .cons k h r => .cons (Dq.mono e k) (Dq.mono e h) (Dqk.mono e r)
theorem Dqf.mono (e : Same H H') : ∀ {v : List (Str × V)} {d : List (PyData × PyData)}, Dqf K H v d → Dqf K H' v d
  | _, _, .nil => .nil
  | _, _, .cons h r => .cons (Dq.mono e h) (Dqf.mono e r)
end
end

theorem Dqs.len {K : PySem.W.Frag} {H : Hp} : ∀ {v : List V} {d : List PyData}, Dqs K H v d → v.length = d.length
  | _, _, .nil => rfl
  | _, _, .cons _ r => by rw [List.length_cons, List.length_cons, Dqs.len r]
theorem Dqs.get {K : PySem.W.Frag} {H : Hp} : ∀ {v : List V} {d : List PyData} {i : Nat} {x : V}, Dqs K H v d → v[i]? = some x → ∃ y, d[i]? = some y ∧ Dq K H x y
  | _, _, _, _, .nil, h => by simp at h
  | _, _, 0, _, .cons h r, q => by
    simp at q
    subst q
    exact ⟨_, rfl, h⟩
  | _, _, i + 1, _, .cons h r, q => by
    obtain ⟨y, e, z⟩ := Dqs.get (i := i) r (by simpa using q)
    exact ⟨y, by simpa using e, z⟩
theorem Dqs.getD {K : PySem.W.Frag} {H : Hp} {v : List V} {d : List PyData} {i : Nat} {y : PyData} (r : Dqs K H v d) (q : d[i]? = some y) : ∃ x, v[i]? = some x ∧ Dq K H x y := by
  have hi : i < v.length := by
    rw [r.len]
    exact (List.getElem?_eq_some_iff.mp q).1
  obtain ⟨z, e, h⟩ := r.get (List.getElem?_eq_getElem hi)
  rw [q] at e
  cases e
  exact ⟨_, List.getElem?_eq_getElem hi, h⟩
theorem Dqs.append {K : PySem.W.Frag} {H : Hp} : ∀ {v : List V} {d : List PyData} {v' : List V} {d' : List PyData}, Dqs K H v d → Dqs K H v' d' → Dqs K H (v ++ v') (d ++ d')
  | _, _, _, _, .nil, s => s
  | _, _, _, _, .cons h r, s => .cons h (Dqs.append r s)
theorem Dqs.take {K : PySem.W.Frag} {H : Hp} : ∀ {v : List V} {d : List PyData} (n : Nat), Dqs K H v d → Dqs K H (v.take n) (d.take n)
  | _, _, 0, _ => .nil
  | _, _, _ + 1, .nil => .nil
  | _, _, n + 1, .cons h r => .cons h (Dqs.take n r)
theorem Dqs.drop {K : PySem.W.Frag} {H : Hp} : ∀ {v : List V} {d : List PyData} (n : Nat), Dqs K H v d → Dqs K H (v.drop n) (d.drop n)
  | _, _, 0, r => r
  | _, _, _ + 1, .nil => .nil
  | _, _, n + 1, .cons _ r => Dqs.drop n r
theorem Dqs.reverse {K : PySem.W.Frag} {H : Hp} : ∀ {v : List V} {d : List PyData}, Dqs K H v d → Dqs K H v.reverse d.reverse
  | _, _, .nil => .nil
  | _, _, .cons h r => by
    rw [List.reverse_cons, List.reverse_cons]
    exact (Dqs.reverse r).append (.cons h .nil)

/-! ### reading the true heap -/
theorem Dqk.vals {K : PySem.W.Frag} {H : Hp} : ∀ {v : List (Key × V)} {d : List (PyData × PyData)}, Dqk K H v d → Dqs K H (v.map (·.2)) (d.map (·.2))
  | _, _, .nil => .nil
  | _, _, .cons _ h r => .cons h (Dqk.vals r)
theorem rel_key {k : Key} {v : Value} (h : keyIs k v = true) : RelV (kV k) v := by
  rcases keyIs_shape h with ⟨i, t, rfl, rfl⟩ | ⟨x, t, rfl, rfl⟩
  · exact ⟨t, rfl⟩
  · exact ⟨t, rfl⟩
theorem pair_vals {P : Program} {w : World} : ∀ {kvs : List (Key × V)} {vs : List (Key × Value)} {es : List DictEntry}, KV kvs vs → Pairs (mixKind P w) es vs → Vals (kvs.map fun p => kV p.1) (es.map (·.key)) ∧ Vals (kvs.map (·.2)) (es.map (·.val))
  | _, _, _, .nil, .nil => ⟨.nil, .nil⟩
  | _, _, _, .cons h r, .cons h1 h2 h3 => by
    obtain ⟨a, b⟩ := pair_vals r h3
    refine ⟨.cons ?_ a, .cons ?_ b⟩
    · dsimp only
      rw [h.1]
      exact rel_key h1
    · dsimp only
      rw [h2]
      exact h.2
/-- no object within -/
def noOb : PyData → Bool
  | .list ds => noObAll ds
  | .tuple ds => noObAll ds
  | .dict ds => noObKv ds
  | _ => true
where
  noObAll : List PyData → Bool
  | [] => true
  | d :: ds => noOb d && noObAll ds
  noObKv : List (PyData × PyData) → Bool
  | [] => true
  | (c, d) :: ds => (match c with | .none => false | _ => true) && noOb c && noOb d && noObKv ds
mutual
theorem noOb_nd : ∀ {d : PyData}, d.hasDict = false → noOb d = true
  | .none, _ => rfl
  | .bool _, _ => rfl
  | .int _, _ => rfl
  | .str _, _ => rfl
  | .list ds, h => by
    simp only [PyData.hasDict] at h
    simp only [noOb]
    exact noObAll_nd h
  | .tuple ds, h => by
    simp only [PyData.hasDict] at h
    simp only [noOb]
    exact noObAll_nd h
  | .dict _, h => by simp only [PyData.hasDict] at h; cases h
theorem noObAll_nd : ∀ {ds : List PyData}, PyData.hasDictAll ds = false → noOb.noObAll ds = true
  | [], _ => rfl
  | d :: ds, h => by
    simp only [PyData.hasDictAll, Bool.or_eq_false_iff] at h
    simp only [noOb.noObAll, noOb_nd h.1, noObAll_nd h.2, Bool.and_self]
end
mutual
theorem noOb_lay : ∀ {d : PyData}, d.canLay0 = true → noOb d = true
  | .none, _ => rfl
  | .bool _, _ => rfl
  | .int _, _ => rfl
  | .str _, _ => rfl
  | .list ds, h => by
    simp only [PyData.canLay0] at h
    simp only [noOb]
    exact noObAll_lay h
  | .tuple ds, h => by
    simp only [PyData.canLay0] at h
    simp only [noOb]
    exact noObAll_lay h
  | .dict _, h => by simp only [PyData.canLay0] at h; cases h
theorem noObAll_lay : ∀ {ds : List PyData}, PyData.canLayAll0 ds = true → noOb.noObAll ds = true
  | [], _ => rfl
  | d :: ds, h => by
    simp only [PyData.canLayAll0, Bool.and_eq_true] at h
    simp only [noOb.noObAll, noOb_lay h.1, noObAll_lay h.2, Bool.and_self]
end
theorem noObAll_of : ∀ {ds : List PyData}, (∀ d ∈ ds, noOb d = true) → noOb.noObAll ds = true
  | [], _ => rfl
  | d :: ds, h => by
    simp only [noOb.noObAll, h d List.mem_cons_self, noObAll_of (ds := ds) fun d hd => h d (List.mem_cons_of_mem _ hd), Bool.and_self]
theorem noOb_ints : ∀ ns : List Int, noOb.noObAll (ns.map PyData.int) = true
  | [] => rfl
  | n :: ns => by
    simp only [List.map_cons, noOb.noObAll, noOb, noOb_ints ns, Bool.and_self]
/-- no list within -/
def bare : PyData → Bool
  | .list _ => false
  | .tuple ds => bareAll ds
  | .dict ds => bareKv ds
  | _ => true
where
  bareAll : List PyData → Bool
  | [] => true
  | d :: ds => bare d && bareAll ds
  bareKv : List (PyData × PyData) → Bool
  | [] => true
  | (c, d) :: ds => (match c with | .none => false | _ => true) && bare c && bare d && bareKv ds
mutual
theorem noOb_bare : ∀ {d : PyData}, bare d = true → noOb d = true
  | .none, _ => rfl
  | .bool _, _ => rfl
  | .int _, _ => rfl
  | .str _, _ => rfl
  | .list ds, h => by simp only [bare] at h; cases h
  | .tuple ds, h => by
    simp only [bare] at h
    simp only [noOb]
    exact noObAll_bare h
  | .dict ds, h => by
    simp only [bare] at h
    simp only [noOb]
    exact noObKv_bare h
theorem noObAll_bare : ∀ {ds : List PyData}, bare.bareAll ds = true → noOb.noObAll ds = true
  | [], _ => rfl
  | d :: ds, h => by
    simp only [bare.bareAll, Bool.and_eq_true] at h
    simp only [noOb.noObAll, noOb_bare h.1, noObAll_bare h.2, Bool.and_self]
theorem noObKv_bare : ∀ {ds : List (PyData × PyData)}, bare.bareKv ds = true → noOb.noObKv ds = true
  | [], _ => rfl
  | (c, d) :: ds, h => by
    simp only [bare.bareKv, Bool.and_eq_true] at h
    simp only [noOb.noObKv, noOb_bare h.1.1.2, noOb_bare h.1.2, noObKv_bare h.2, h.1.1.1, Bool.and_self]
end
theorem noOb_or {d : PyData} (h : (!d.hasDict || bare d) = true) : noOb d = true := by
  rcases Bool.or_eq_true_iff.mp h with h | h
  · exact noOb_nd (by cases e : d.hasDict with | false => rfl | true => rw [e] at h; cases h)
  · exact noOb_bare h
/-- an object that is written no more -/
def isOb : PyData → Bool
  | .dict ((.none, _) :: _) => true
  | _ => false
theorem key_ob {K : PySem.W.Frag} {H : Hp} {k : Key} {c : PyData} (hk : Dq K H (kV k) c) : c ≠ .none := by
  cases k with
  | inl i =>
    cases hk
    intro z
    cases z
  | inr x =>
    cases hk
    intro z
    cases z
theorem Dq.ob {K : PySem.W.Frag} {H : Hp} {v : V} {d : PyData} (h : Dq K H v d) (q : isOb d = true) : ∃ a C dx nm fs ds, v = .ref a ∧ d = .dict ((.none, .str nm) :: ds) ∧ H a = some (.ins C dx fs) ∧ ObC K C nm (fs.map (·.1)) ∧ Dqf K H fs ds := by
  cases h with
  | ins h hn r => exact ⟨_, _, _, _, _, _, rfl, rfl, h, hn, r⟩
  | dct h r =>
    cases r with
    | nil => cases q
    | cons hk h2 r3 =>
      have this := key_ob hk
      exfalso
      unfold isOb at q
      split at q
      · rename_i heq
        injection heq with heq
        injection heq with e1 e2
        injection e1 with e1 e3
        exact this e1
      · cases q
  | _ => cases q
section
variable {X : Cx} {pins : List (Addr × Obj)} {σ : L2.St} {H : Hp} {s : Shared}
/-- the modules' dict is no list: it is the kit's, or held as it is -/
def SmOk (K : PySem.W.Frag) (H : Hp) : Prop := (∃ om es ep, K.lookup sysModules = some om ∧ om.data = .dict es ep) ∨ ∃ om es ep, H sysModules = some (.frz om (.own 0)) ∧ om.data = .dict es ep
theorem SmOk.ext {K : PySem.W.Frag} {H H' : Hp} (h : SmOk K H) (e : Same H H') : SmOk K H' := by
  rcases h with h | ⟨om, es, ep, h1, h2⟩
  · exact .inl h
  · exact .inr ⟨om, es, ep, e _ _ h1, h2⟩
theorem SmOk.upd {K : PySem.W.Frag} {H : Hp} {q : Addr} {vs : List V} {ob : HO} (h : SmOk K H) (e : H q = some (.lst vs)) : SmOk K (L2.upd H q ob) := by
  rcases h with h | ⟨om, es, ep, h1, h2⟩
  · exact .inl h
  · exact .inr ⟨om, es, ep, by rw [upd_ne fun z => by rw [z, e] at h1; cases h1]; exact h1, h2⟩
theorem SmOk.dict {X : Cx} {pins : List (Addr × Obj)} {σ : L2.St} {H : Hp} {s : Shared} (h : SmOk X.K H) (I : Inv X pins σ H s) : ∃ om es ep, s.heap.get? sysModules = some om ∧ om.data = .dict es ep := by
  rcases h with ⟨om, es, ep, h1, h2⟩ | ⟨om, es, ep, h1, h2⟩
  · exact ⟨om, es, ep, I.kIn _ _ h1, h2⟩
  · exact ⟨om, es, ep, (I.hok _ _ h1).1, h2⟩
mutual
theorem Dq.reads (I : Inv X pins σ H s) : ∀ {v : V} {d : PyData} {u : Value}, Dq X.K H v d → noOb d = true → RelV v u → ∃ as, Reads s.heap u d as ∧ (SmOk X.K H → sysModules ∉ as)
  | _, _, _, .non, _, r => by
    cases r
    exact ⟨_, Reads.none, fun _ z => nomatch z⟩
  | _, _, _, .bl b, _, r => by
    cases r
    exact ⟨_, Reads.bool b, fun _ z => nomatch z⟩
  | _, _, _, .int i, _, r => by
    obtain ⟨t, rfl⟩ := r
    exact ⟨_, Reads.int i t, fun _ z => nomatch z⟩
  | _, _, _, .str x, _, r => by
    obtain ⟨t, rfl⟩ := r
    exact ⟨_, Reads.str x t, fun _ z => nomatch z⟩
  | _, _, _, .lst hs ha, nb, r => by
    simp only [noOb] at nb
    cases r
    obtain ⟨its, rv, ⟨o, n, ho, hc, _, hd⟩, _⟩ := I.list (SqL.of hs)
    obtain ⟨as, hr, hb⟩ := Dqs.reads I ha nb rv
    refine ⟨_, Reads.list ho hc hd hr, fun z hm => ?_⟩
    rcases List.mem_cons.mp hm with hm | hm
    · obtain ⟨om, es, ep, e1, e2⟩ := z.dict I
      rw [hm, ho] at e1
      cases e1
      rw [hd] at e2
      cases e2
    · exact hb z hm
  | _, _, _, .tup hs ha, nb, r => by
    simp only [noOb] at nb
    cases r
    obtain ⟨its, rv, ⟨o, ho, hc, n, hd⟩, _⟩ := I.tuple hs
    obtain ⟨as, hr, hb⟩ := Dqs.reads I ha nb rv
    exact ⟨_, Reads.tuple ho hc hd hr, fun z => hb z⟩
  | _, _, _, .ins hs hn ha, nb, r => by simp [noOb, noOb.noObKv] at nb
  | _, _, _, .dct hs ha, nb, r => by
    simp only [noOb] at nb
    cases r
    obtain ⟨_, hsm, vs, kv, o, es, ep, ho, hx, hd, _, hp, _⟩ := I.hok _ _ hs
    obtain ⟨r1, r2⟩ := pair_vals kv hp
    obtain ⟨as, bs, q1, q2, hb⟩ := Dqk.reads I ha nb r1 r2
    refine ⟨_, Reads.dict ho hx.1 hd q1 q2, fun z => ?_⟩
    have z2 := hb z
    intro hm
    rcases List.mem_append.mp hm with hm | hm
    · rcases List.mem_cons.mp hm with hm | hm
      · rw [← hm] at hsm
        simp at hsm
      · exact z2.1 hm
    · exact z2.2 hm
theorem Dqs.reads (I : Inv X pins σ H s) : ∀ {vs : List V} {ds : List PyData} {us : List Value}, Dqs X.K H vs ds → noOb.noObAll ds = true → Vals vs us → ∃ as, ReadsAll s.heap us ds as ∧ (SmOk X.K H → sysModules ∉ as)
  | _, _, _, .nil, _, r => by
    cases r
    exact ⟨_, ReadsAll.nil, fun _ z => nomatch z⟩
  | _, d :: ds, _, .cons h1 h2, nb, r => by
    simp only [noOb.noObAll, Bool.and_eq_true] at nb
    cases r with
    | cons r1 r2 =>
      obtain ⟨as, q1, b1⟩ := Dq.reads I h1 nb.1 r1
      obtain ⟨bs, q2, b2⟩ := Dqs.reads I h2 nb.2 r2
      refine ⟨_, ReadsAll.cons q1 q2, fun z hm => ?_⟩
      rcases List.mem_append.mp hm with hm | hm
      · exact b1 z hm
      · exact b2 z hm
theorem Dqk.reads (I : Inv X pins σ H s) : ∀ {kvs : List (Key × V)} {ds : List (PyData × PyData)} {ks us : List Value}, Dqk X.K H kvs ds → noOb.noObKv ds = true → Vals (kvs.map fun p => kV p.1) ks → Vals (kvs.map (·.2)) us →
    ∃ as bs, ReadsAll s.heap ks (ds.map (·.1)) as ∧ ReadsAll s.heap us (ds.map (·.2)) bs ∧ (SmOk X.K H → sysModules ∉ as ∧ sysModules ∉ bs)
  | _, _, _, _, .nil, _, r1, r2 => by
    cases r1
    cases r2
    exact ⟨_, _, ReadsAll.nil, ReadsAll.nil, fun _ => ⟨fun z => (nomatch z), fun z => nomatch z⟩⟩
  | _, (c, d) :: ds, _, _, .cons hk h1 h2, nb, r, r' => by
    simp only [noOb.noObKv, Bool.and_eq_true] at nb
    cases r with
    | cons r1 r2 =>
      cases r' with
      | cons r3 r4 =>
        obtain ⟨cs, q0, b0⟩ := Dq.reads I hk nb.1.1.2 r1
        obtain ⟨ds', q1, b1⟩ := Dq.reads I h1 nb.1.2 r3
        obtain ⟨as, bs, q2, q3, b2⟩ := Dqk.reads I h2 nb.2 r2 r4
        refine ⟨_, _, ReadsAll.cons q0 q2, ReadsAll.cons q1 q3, fun z => ?_⟩
        have z2 := b2 z
        refine ⟨fun hm => ?_, fun hm => ?_⟩
        · rcases List.mem_append.mp hm with hm | hm
          · exact b0 z hm
          · exact z2.1 hm
        · rcases List.mem_append.mp hm with hm | hm
          · exact b1 z hm
          · exact z2.2 hm
end
end

/-! ### mutable objects by tags, the state -/
/-- the tables of code objects that the law's lambdas are kept in, and the names of these -/
def lamT : List (Addr × Str) := []
inductive Sv where
  | dat (d : PyData)
  | ref (t : Nat)
  | scr (ns : List Int)
inductive MObj where
  | lst (xs : List Sv)
  | gone
abbrev Mu := List MObj
abbrev Rho := List (Option Sv)
/-- a world: where the tagged objects stand, and the part of the heap that never changes -/
structure Wd where
  η : Nat → Addr
  S : Hp
def SvR (K : PySem.W.Frag) (W : Wd) (n : Nat) : V → Sv → Prop
  | v, .dat d => Dq K W.S v d
  | v, .ref t => t < n ∧ v = .ref (W.η t)
  | v, .scr ns => ∃ a, v = .ref a ∧ SqL K W.S a (ns.map V.int)
abbrev SvRs (K : PySem.W.Frag) (W : Wd) (n : Nat) : List V → List Sv → Prop := Paired (SvR K W n)
def ObR (K : PySem.W.Frag) (W : Wd) (n : Nat) (H : Hp) (a : Addr) : MObj → Prop
  | .lst xs => ∃ vs, H a = some (.lst vs) ∧ SvRs K W n vs xs
  | .gone => True
def alive : MObj → Bool
  | .gone => false
  | _ => true
structure Rel (K : PySem.W.Frag) (W : Wd) (H : Hp) (μ : Mu) : Prop where
  sub : Same W.S H
  obj : ∀ i o, μ[i]? = some o → ObR K W μ.length H (W.η i) o
  own : ∀ i o, μ[i]? = some o → alive o = true → W.S (W.η i) = none
  inj : ∀ i j o o', μ[i]? = some o → μ[j]? = some o' → alive o = true → alive o' = true → W.η i = W.η j → i = j
  tab : LamX.Tabs lamT H
  sm : SmOk K H
  nt : ∀ b ps, W.S b ≠ some (.tbl ps)
structure Gr0 (W : Wd) (n : Nat) (W' : Wd) (n' : Nat) : Prop where
  le : n ≤ n'
  same : Same W.S W'.S
  at_ : ∀ i, i < n → W'.η i = W.η i
theorem Gr0.refl (W : Wd) (n : Nat) : Gr0 W n W n := ⟨Nat.le_refl _, Same.refl _, fun _ _ => rfl⟩
theorem Gr0.trans {W W1 W2 : Wd} {n n1 n2 : Nat} (a : Gr0 W n W1 n1) (b : Gr0 W1 n1 W2 n2) : Gr0 W n W2 n2 :=
  ⟨Nat.le_trans a.le b.le, a.same.trans b.same, fun i h => (b.at_ i (Nat.lt_of_lt_of_le h a.le)).trans (a.at_ i h)⟩
theorem SvR.grow0 {K : PySem.W.Frag} {W W' : Wd} {n n' : Nat} (g : Gr0 W n W' n') : ∀ {v : V} {x : Sv}, SvR K W n v x → SvR K W' n' v x
  | _, .dat _, h => Dq.mono g.same h
  | _, .ref t, h => ⟨Nat.lt_of_lt_of_le h.1 g.le, by rw [h.2, g.at_ t h.1]⟩
  | _, .scr _, ⟨a, e, h⟩ => ⟨a, e, g.same.seq h⟩
theorem SvRs.grow0 {K : PySem.W.Frag} {W W' : Wd} {n n' : Nat} (g : Gr0 W n W' n') : ∀ {v : List V} {x : List Sv}, SvRs K W n v x → SvRs K W' n' v x
  | _, _, .nil => .nil
  | _, _, .cons h r => .cons (SvR.grow0 g h) (SvRs.grow0 g r)
theorem SvRs.len {K : PySem.W.Frag} {W : Wd} {n : Nat} {v : List V} {x : List Sv} (h : SvRs K W n v x) : v.length = x.length := Paired.length h
theorem SvRs.get {K : PySem.W.Frag} {W : Wd} {n : Nat} : ∀ {v : List V} {x : List Sv} {i : Nat} {y : Sv}, SvRs K W n v x → x[i]? = some y → ∃ u, v[i]? = some u ∧ SvR K W n u y
  | _, _, _, _, .nil, e => by simp at e
  | _, _, 0, _, .cons r _, e => by
    simp at e
    subst e
    exact ⟨_, rfl, r⟩
  | _, _, i + 1, y, .cons _ t, e => by
    obtain ⟨u, h1, h2⟩ := SvRs.get (i := i) (y := y) t (by simpa using e)
    exact ⟨u, by simpa using h1, h2⟩
theorem SvRs.set {K : PySem.W.Frag} {W : Wd} {n : Nat} {u : V} {y : Sv} (r : SvR K W n u y) : ∀ {v : List V} {x : List Sv} (i : Nat), SvRs K W n v x → SvRs K W n (v.set i u) (x.set i y)
  | _, _, _, .nil => .nil
  | _, _, 0, .cons _ t => .cons r t
  | _, _, i + 1, .cons q t => .cons q (SvRs.set r i t)
theorem SvRs.append {K : PySem.W.Frag} {W : Wd} {n : Nat} : ∀ {v v' : List V} {x x' : List Sv}, SvRs K W n v x → SvRs K W n v' x' → SvRs K W n (v ++ v') (x ++ x')
  | _, _, _, _, .nil, s => s
  | _, _, _, _, .cons r t, s => .cons r (SvRs.append t s)
/-- the data of a list of values -/
def dats : List Sv → Option (List PyData)
  | [] => some []
  | .dat d :: r => (dats r).map (d :: ·)
  | _ :: _ => none
theorem dats_rel {K : PySem.W.Frag} {W : Wd} {n : Nat} : ∀ {v : List V} {x : List Sv} {ds : List PyData}, SvRs K W n v x → dats x = some ds → Dqs K W.S v ds
  | _, _, _, .nil, e => by
    cases e
    exact .nil
  | _, .dat d :: r, _, .cons h t, e => by
    have e' : (dats r).map (d :: ·) = some _ := e
    cases q : dats r with
    | none =>
      rw [q] at e'
      cases e'
    | some z =>
      rw [q] at e'
      cases e'
      exact .cons h (dats_rel t q)
  | _, .ref t :: r, _, .cons h _, e => by cases e
  | _, .scr t :: r, _, .cons h _, e => by cases e
theorem rel_dats {K : PySem.W.Frag} {W : Wd} {n : Nat} : ∀ {v : List V} {ds : List PyData}, Dqs K W.S v ds → SvRs K W n v (ds.map Sv.dat)
  | _, _, .nil => .nil
  | _, _, .cons h r => .cons h (rel_dats r)
theorem dats_map (ds : List PyData) : dats (ds.map Sv.dat) = some ds := by
  induction ds with
  | nil => rfl
  | cons d ds ih =>
    show (dats (ds.map Sv.dat)).map (d :: ·) = _
    rw [ih]
    rfl
/-- the slots -/
structure Sls (K : PySem.W.Frag) (W : Wd) (n : Nat) (σ : L2.St) (ρ : Rho) : Prop where
  at_ : ∀ (i : Nat) (x : Sv), ρ[i]? = some (some x) → ∃ v, σ[i]? = some (some v) ∧ SvR K W n v x
  len : σ.length = ρ.length
theorem Sls.grow0 {K : PySem.W.Frag} {W W' : Wd} {n n' : Nat} {σ : L2.St} {ρ : Rho} (g : Gr0 W n W' n') (h : Sls K W n σ ρ) : Sls K W' n' σ ρ :=
  ⟨fun i x e => let ⟨v, a, b⟩ := h.at_ i x e; ⟨v, a, b.grow0 g⟩, h.len⟩
theorem Sls.set {K : PySem.W.Frag} {W : Wd} {n : Nat} {σ : L2.St} {ρ : Rho} {v : V} {x : Sv} (h : Sls K W n σ ρ) (i : Nat) (r : SvR K W n v x) : Sls K W n (σ.set i (some v)) (ρ.set i (some x)) := by
  refine ⟨fun j y e => ?_, by rw [List.length_set, List.length_set, h.len]⟩
  by_cases hj : i = j
  · subst hj
    have hi : i < ρ.length := by
      have := (List.getElem?_eq_some_iff.mp e).1
      simpa using this
    rw [List.getElem?_set_self hi] at e
    cases e
    exact ⟨v, List.getElem?_set_self (by rw [h.len]; exact hi), r⟩
  · rw [List.getElem?_set_ne hj] at e
    obtain ⟨u, a, b⟩ := h.at_ j y e
    exact ⟨u, by rw [List.getElem?_set_ne hj]; exact a, b⟩
/-! ### heaps that grow -/
theorem same_new {H : Hp} {p : Addr} {o : HO} (h : H p = none) : Same H (upd H p o) := fun b x e => by
  rw [upd_ne (ne_of_none e h)]
  exact e
theorem same_both {S H : Hp} {p : Addr} {o : HO} (h : Same S H) : Same (upd S p o) (upd H p o) := fun b x e => by
  by_cases hb : b = p
  · subst hb
    rw [upd_same] at e ⊢
    exact e
  · rw [upd_ne hb] at e ⊢
    exact h b x e
section
variable {K : PySem.W.Frag} {W : Wd} {H : Hp} {μ : Mu} {p : Addr} {o : HO}
theorem Rel.free (R : Rel K W H μ) (hp : H p = none) : W.S p = none := R.sub.free hp
theorem Rel.apart (R : Rel K W H μ) (hp : H p = none) {i : Nat} {xs : List Sv} (e : μ[i]? = some (.lst xs)) : W.η i ≠ p := by
  obtain ⟨vs, h, _⟩ := R.obj i _ e
  exact ne_of_none h hp
/-- a new object, not followed -/
theorem Rel.lay (R : Rel K W H μ) (hp : H p = none) : Rel K W (upd H p o) μ where
  sub := R.sub.trans (same_new hp)
  obj := fun i ob e => by
    cases ob with
    | gone => trivial
    | lst xs =>
      obtain ⟨vs, h, r⟩ := R.obj i _ e
      exact ⟨vs, same_new hp _ _ h, r⟩
  own := R.own
  inj := R.inj
  tab := R.tab.ext (same_new hp)
  sm := R.sm.ext (same_new hp)
  nt := R.nt
/-- a new shared object -/
def Wd.put (W : Wd) (p : Addr) (o : HO) : Wd := ⟨W.η, upd W.S p o⟩
theorem Wd.put_grow {n : Nat} (h : W.S p = none) : Gr0 W n (W.put p o) n := ⟨Nat.le_refl _, same_new h, fun _ _ => rfl⟩
theorem Rel.share (R : Rel K W H μ) (hp : H p = none) (hn : ∀ ps, o ≠ .tbl ps := by intro _ z; cases z) : Rel K (W.put p o) (upd H p o) μ where
  sub := same_both R.sub
  obj := fun i ob e => by
    cases ob with
    | gone => trivial
    | lst xs =>
      obtain ⟨vs, h, r⟩ := R.obj i _ e
      exact ⟨vs, same_new hp _ _ h, SvRs.grow0 (Wd.put_grow (R.free hp)) r⟩
  own := fun i ob e ha => by
    cases ob with
    | gone => cases ha
    | lst xs =>
      show upd W.S p o (W.η i) = none
      rw [upd_ne (R.apart hp e)]
      exact R.own i _ e ha
  inj := R.inj
  tab := R.tab.ext (same_new hp)
  sm := R.sm.ext (same_new hp)
  nt := fun b ps e => by
    have e' : upd W.S p o b = some (.tbl ps) := e
    by_cases hb : b = p
    · subst hb
      rw [upd_same] at e'
      exact hn ps (Option.some.inj e')
    · rw [upd_ne hb] at e'
      exact R.nt b ps e'
theorem tabs_upd {H : Hp} {q : Addr} {vs : List V} {ob : HO} (t : LamX.Tabs lamT H) (h : H q = some (.lst vs)) : LamX.Tabs lamT (upd H q ob) := fun pr hpr => by
  obtain ⟨ps, h1, h2, h3⟩ := t pr hpr
  refine ⟨ps, by rw [upd_ne fun z => by rw [z, h] at h1; cases h1]; exact h1, h2, fun pos cv hc => ?_⟩
  obtain ⟨c, e1, e2⟩ := h3 pos cv hc
  have nc : c ≠ q := fun z => by
    rw [z, h] at e2
    unfold LamX.CodeO at e2
    cases e2
  exact ⟨c, e1, by rw [upd_ne nc]; exact e2⟩
/-- a new tagged list -/
def Wd.tag (W : Wd) (n : Nat) (p : Addr) : Wd := ⟨fun i => if i = n then p else W.η i, W.S⟩
theorem Wd.tag_grow {n : Nat} : Gr0 W n (W.tag n p) (n + 1) := ⟨Nat.le_succ _, Same.refl _, fun i h => if_neg (Nat.ne_of_lt h)⟩
theorem Wd.tag_self {n : Nat} : (W.tag n p).η n = p := if_pos rfl
theorem Wd.tag_old {n i : Nat} (h : i < n) : (W.tag n p).η i = W.η i := if_neg (Nat.ne_of_lt h)
theorem Rel.alloc (R : Rel K W H μ) (hp : H p = none) {vs : List V} {xs : List Sv} (r : SvRs K W μ.length vs xs) : Rel K (W.tag μ.length p) (upd H p (.lst vs)) (μ ++ [.lst xs]) := by
  have hl : (μ ++ [MObj.lst xs]).length = μ.length + 1 := by simp
  have split : ∀ i ob, (μ ++ [MObj.lst xs])[i]? = some ob → (i < μ.length ∧ μ[i]? = some ob) ∨ (i = μ.length ∧ ob = .lst xs) := fun i ob e => by
    by_cases hi : i < μ.length
    · rw [List.getElem?_append_left hi] at e
      exact .inl ⟨hi, e⟩
    · have hi2 : i < (μ ++ [MObj.lst xs]).length := (List.getElem?_eq_some_iff.mp e).1
      have : i = μ.length := by omega
      subst this
      rw [List.getElem?_append_right (Nat.le_refl _)] at e
      simp at e
      exact .inr ⟨rfl, e.symm⟩
  have nold : ∀ i ob, μ[i]? = some ob → alive ob = true → W.η i ≠ p := fun i ob e ha => by
    cases ob with
    | gone => cases ha
    | lst ys => exact R.apart hp e
  refine ⟨R.sub.trans (same_new hp), fun i ob e => ?_, fun i ob e ha => ?_, fun i j o1 o2 e1 e2 a1 a2 q => ?_, R.tab.ext (same_new hp), R.sm.ext (same_new hp), R.nt⟩
  · rw [hl]
    rcases split i ob e with ⟨hi, e⟩ | ⟨rfl, rfl⟩
    · rw [Wd.tag_old hi]
      cases ob with
      | gone => trivial
      | lst ys =>
        obtain ⟨us, h, q⟩ := R.obj i _ e
        exact ⟨us, same_new hp _ _ h, q.grow0 Wd.tag_grow⟩
    · rw [Wd.tag_self]
      exact ⟨vs, upd_same, r.grow0 Wd.tag_grow⟩
  · rcases split i ob e with ⟨hi, e⟩ | ⟨rfl, rfl⟩
    · rw [Wd.tag_old hi]
      exact R.own i ob e ha
    · rw [Wd.tag_self]
      exact R.free hp
  · rcases split i o1 e1 with ⟨hi, e1⟩ | ⟨rfl, rfl⟩
    · rcases split j o2 e2 with ⟨hj, e2⟩ | ⟨rfl, rfl⟩
      · rw [Wd.tag_old hi, Wd.tag_old hj] at q
        exact R.inj i j o1 o2 e1 e2 a1 a2 q
      · rw [Wd.tag_old hi, Wd.tag_self] at q
        exact absurd q (nold i o1 e1 a1)
    · rcases split j o2 e2 with ⟨hj, e2⟩ | ⟨rfl, rfl⟩
      · rw [Wd.tag_old hj, Wd.tag_self] at q
        exact absurd q.symm (nold j o2 e2 a2)
      · rfl
theorem at_set {α : Type} {l : List α} {t i : Nat} {x y : α} (h : (l.set t x)[i]? = some y) : (i = t ∧ y = x) ∨ (i ≠ t ∧ l[i]? = some y) := by
  by_cases hi : t = i
  · subst hi
    have hl : t < l.length := by
      have := (List.getElem?_eq_some_iff.mp h).1
      simpa using this
    rw [List.getElem?_set_self hl] at h
    cases h
    exact .inl ⟨rfl, rfl⟩
  · rw [List.getElem?_set_ne hi] at h
    exact .inr ⟨fun z => hi z.symm, h⟩
/-- a tagged list is written -/
theorem Rel.write (R : Rel K W H μ) {t : Nat} {ys : List Sv} (e : μ[t]? = some (.lst ys)) {vs : List V} {xs : List Sv} (r : SvRs K W μ.length vs xs) : Rel K W (upd H (W.η t) (.lst vs)) (μ.set t (.lst xs)) := by
  have hlen : (μ.set t (MObj.lst xs)).length = μ.length := List.length_set ..
  have hown := R.own t _ e rfl
  have ne : ∀ i ob, i ≠ t → μ[i]? = some ob → alive ob = true → W.η i ≠ W.η t := fun i ob hi q ha z => hi (R.inj i t ob _ q e ha rfl z)
  refine ⟨fun b x q => ?_, fun i ob q => ?_, fun i ob q ha => ?_, fun i j o1 o2 q1 q2 a1 a2 z => ?_, let ⟨_, h, _⟩ := R.obj t _ e; tabs_upd R.tab h, let ⟨_, h, _⟩ := R.obj t _ e; R.sm.upd h, R.nt⟩
  · have hb : b ≠ W.η t := fun z => by
      rw [z, hown] at q
      cases q
    rw [upd_ne hb]
    exact R.sub b x q
  · rw [hlen]
    rcases at_set q with ⟨rfl, rfl⟩ | ⟨hi, q⟩
    · exact ⟨vs, upd_same, r⟩
    · cases ob with
      | gone => trivial
      | lst zs =>
        obtain ⟨us, h, z⟩ := R.obj i _ q
        exact ⟨us, by rw [upd_ne (ne i _ hi q rfl)]; exact h, z⟩
  · rcases at_set q with ⟨rfl, rfl⟩ | ⟨hi, q⟩
    · exact hown
    · exact R.own i ob q ha
  · rcases at_set q1 with ⟨h1, h2⟩ | ⟨hi, p1⟩
    · rcases at_set q2 with ⟨h3, h4⟩ | ⟨hj, p2⟩
      · rw [h1, h3]
      · exact absurd (h1 ▸ z).symm (ne j o2 hj p2 a2)
    · rcases at_set q2 with ⟨h3, h4⟩ | ⟨hj, p2⟩
      · exact absurd (h3 ▸ z) (ne i o1 hi p1 a1)
      · exact R.inj i j o1 o2 p1 p2 a1 a2 z
end

/-! ### a step: what is shared stays, what no tag owns stays -/
def Loose (W : Wd) (μ : Mu) (a : Addr) : Prop := W.S a = none ∧ ∀ (t : Nat) (ob : MObj), μ[t]? = some ob → alive ob = true → W.η t ≠ a
structure Grow (W : Wd) (H : Hp) (μ : Mu) (W' : Wd) (H' : Hp) (μ' : Mu) : Prop where
  gr : Gr0 W μ.length W' μ'.length
  frm : ∀ a o, H a = some o → (∀ ps, o ≠ .tbl ps) → Loose W μ a → H' a = some o ∧ Loose W' μ' a
theorem Grow.same {W W' : Wd} {H H' : Hp} {μ μ' : Mu} (g : Grow W H μ W' H' μ') : Same W.S W'.S := g.gr.same
theorem Grow.at_ {W W' : Wd} {H H' : Hp} {μ μ' : Mu} (g : Grow W H μ W' H' μ') : ∀ i, i < μ.length → W'.η i = W.η i := g.gr.at_
theorem Grow.refl (W : Wd) (H : Hp) (μ : Mu) : Grow W H μ W H μ := ⟨Gr0.refl _ _, fun _ _ h _ l => ⟨h, l⟩⟩
theorem Grow.trans {W W1 W2 : Wd} {H H1 H2 : Hp} {μ μ1 μ2 : Mu} (a : Grow W H μ W1 H1 μ1) (b : Grow W1 H1 μ1 W2 H2 μ2) : Grow W H μ W2 H2 μ2 :=
  ⟨a.gr.trans b.gr, fun c o h n l => let ⟨h1, l1⟩ := a.frm c o h n l; b.frm c o h1 n l1⟩
theorem SvR.grow {K : PySem.W.Frag} {W W' : Wd} {H H' : Hp} {μ μ' : Mu} {v : V} {x : Sv} (g : Grow W H μ W' H' μ') (h : SvR K W μ.length v x) : SvR K W' μ'.length v x := h.grow0 g.gr
theorem SvRs.grow {K : PySem.W.Frag} {W W' : Wd} {H H' : Hp} {μ μ' : Mu} {v : List V} {x : List Sv} (g : Grow W H μ W' H' μ') (h : SvRs K W μ.length v x) : SvRs K W' μ'.length v x := h.grow0 g.gr
theorem Sls.grow {K : PySem.W.Frag} {W W' : Wd} {H H' : Hp} {μ μ' : Mu} {σ : L2.St} {ρ : Rho} (g : Grow W H μ W' H' μ') (h : Sls K W μ.length σ ρ) : Sls K W' μ'.length σ ρ := h.grow0 g.gr
section
variable {K : PySem.W.Frag} {W : Wd} {H : Hp} {μ : Mu} {p : Addr} {o : HO}
theorem grow_share (R : Rel K W H μ) (hp : H p = none) : Grow W H μ (W.put p o) (upd H p o) μ := ⟨Wd.put_grow (R.free hp), fun a x h _ l => ⟨same_new hp a x h, by show upd W.S p o a = none; rw [upd_ne (ne_of_none h hp)]; exact l.1, l.2⟩⟩
theorem grow_alloc (R : Rel K W H μ) (hp : H p = none) {xs : List Sv} {ob : HO} : Grow W H μ (W.tag μ.length p) (upd H p ob) (μ ++ [.lst xs]) := by
  have hl : (μ ++ [MObj.lst xs]).length = μ.length + 1 := by simp
  refine ⟨by rw [hl]; exact Wd.tag_grow, fun a x h _ l => ⟨same_new hp a x h, l.1, fun t u e ha => ?_⟩⟩
  by_cases hi : t < μ.length
  · rw [List.getElem?_append_left hi] at e
    rw [Wd.tag_old hi]
    exact l.2 t u e ha
  · have hi2 : t < (μ ++ [MObj.lst xs]).length := (List.getElem?_eq_some_iff.mp e).1
    have : t = μ.length := by omega
    subst this
    rw [Wd.tag_self]
    exact (ne_of_none h hp).symm
theorem grow_write {t : Nat} {ys xs : List Sv} {ob : HO} (e : μ[t]? = some (.lst ys)) : Grow W H μ W (upd H (W.η t) ob) (μ.set t (.lst xs)) := by
  refine ⟨by rw [List.length_set]; exact Gr0.refl _ _, fun a x h _ l => ⟨?_, l.1, fun i u q ha => ?_⟩⟩
  · rw [upd_ne fun z => l.2 t _ e rfl z.symm]
    exact h
  · rcases at_set q with ⟨h1, h2⟩ | ⟨hi, q⟩
    · rw [h1]
      exact l.2 t _ e rfl
    · exact l.2 i u q ha
/-- an object that no tag owns and nobody shares, out of sight -/
def hideA (H : Hp) (D : Addr) : Hp := fun a => if a = D then none else H a
theorem hide_self {H : Hp} {D : Addr} : hideA H D D = none := if_pos rfl
theorem hide_ne {H : Hp} {D a : Addr} (h : a ≠ D) : hideA H D a = H a := if_neg h
theorem hide_upd {H : Hp} {D : Addr} (h : H D = some o) : upd (hideA H D) D o = H := by
  funext a
  by_cases ha : a = D
  · subst ha
    rw [upd_same, h]
  · rw [upd_ne ha, hide_ne ha]
theorem Rel.hide (R : Rel K W H μ) {D : Addr} {us : List V} (hD : H D = some (.lst us)) (l : Loose W μ D) : Rel K W (hideA H D) μ where
  sub := fun a x e => by
    rw [hide_ne fun z => by rw [z, l.1] at e; cases e]
    exact R.sub a x e
  obj := fun i ob e => by
    cases ob with
    | gone => trivial
    | lst xs =>
      obtain ⟨vs, h, r⟩ := R.obj i _ e
      exact ⟨vs, by rw [hide_ne (l.2 i _ e rfl)]; exact h, r⟩
  own := R.own
  inj := R.inj
  tab := fun pr hpr => by
    obtain ⟨ps, h1, h2, h3⟩ := R.tab pr hpr
    refine ⟨ps, by rw [hide_ne fun z => by rw [z, hD] at h1; cases h1]; exact h1, h2, fun pos cv hc => ?_⟩
    obtain ⟨c, e1, e2⟩ := h3 pos cv hc
    have nc : c ≠ D := fun z => by
      rw [z, hD] at e2
      unfold LamX.CodeO at e2
      cases e2
    exact ⟨c, e1, by rw [hide_ne nc]; exact e2⟩
  sm := by
    rcases R.sm with h | ⟨om, es, ep, h1, h2⟩
    · exact .inl h
    · exact .inr ⟨om, es, ep, by rw [hide_ne fun z => by rw [z, hD] at h1; cases h1]; exact h1, h2⟩
  nt := R.nt
/-- .. is written -/
theorem Rel.loose (R : Rel K W H μ) {D : Addr} {us : List V} (hD : H D = some (.lst us)) (l : Loose W μ D) : Rel K W (upd H D o) μ where
  sub := fun a x e => by
    rw [upd_ne fun z => by rw [z, l.1] at e; cases e]
    exact R.sub a x e
  obj := fun i ob e => by
    cases ob with
    | gone => trivial
    | lst xs =>
      obtain ⟨vs, h, r⟩ := R.obj i _ e
      exact ⟨vs, by rw [upd_ne (l.2 i _ e rfl)]; exact h, r⟩
  own := R.own
  inj := R.inj
  tab := tabs_upd R.tab hD
  sm := R.sm.upd hD
  nt := R.nt
theorem Grow.out {W' : Wd} {H' H2 : Hp} {μ' : Mu} {D : Addr} (g : Grow W H μ W' H' μ') (hD : H D = none) (h2 : ∀ a, a ≠ D → H2 a = H' a) : Grow W H μ W' H2 μ' :=
  ⟨g.gr, fun a x h n l => let ⟨h1, l1⟩ := g.frm a x h n l; ⟨by rw [h2 a (ne_of_none h hD)]; exact h1, l1⟩⟩
theorem Rel.fresh (R : Rel K W H μ) (hp : H p = none) : Loose W μ p := ⟨R.free hp, fun t ob e ha => by
  cases ob with
  | gone => cases ha
  | lst xs => exact R.apart hp e⟩
end
end Pf

namespace Pf
open PySem PySem.Spec PyProof.Rows L2

/-! ### the monad -/
structure Exc where
  C : Str
  fld : Option (Str × Sv)
inductive Res (α : Type) where
  | ok (a : α) (μ : Mu)
  | ex (c : Exc) (μ : Mu)
def M (α : Type) : Type := Mu → Option (Res α)
def M.ret {α : Type} (a : α) : M α := fun μ => some (.ok a μ)
def M.fail {α : Type} : M α := fun _ => none
def M.thr {α : Type} (c : Exc) : M α := fun μ => some (.ex c μ)
def M.bind {α β : Type} (m : M α) (k : α → M β) : M β := fun μ =>
  match m μ with
  | some (.ok a μ') => k a μ'
  | some (.ex c μ') => some (.ex c μ')
  | none => none
instance : Monad M where
  pure := M.ret
  bind := M.bind
theorem bind_ok {α β : Type} {m : M α} {k : α → M β} {μ μ' : Mu} {a : α} (h : m μ = some (.ok a μ')) : M.bind m k μ = k a μ' := by
  unfold M.bind
  rw [h]
theorem bind_ex {α β : Type} {m : M α} {k : α → M β} {μ μ' : Mu} {c : Exc} (h : m μ = some (.ex c μ')) : M.bind m k μ = some (.ex c μ') := by
  unfold M.bind
  rw [h]
theorem bind_some {α β : Type} {m : M α} {k : α → M β} {μ : Mu} {r : Res β} (h : M.bind m k μ = some r) :
    (∃ a μ1, m μ = some (.ok a μ1) ∧ k a μ1 = some r) ∨ ∃ c μ1, m μ = some (.ex c μ1) ∧ r = .ex c μ1 := by
  unfold M.bind at h
  cases e : m μ with
  | none =>
    rw [e] at h
    cases h
  | some x =>
    rw [e] at h
    cases x with
    | ok a μ1 => exact .inl ⟨a, μ1, rfl, h⟩
    | ex c μ1 =>
      cases h
      exact .inr ⟨c, μ1, rfl, rfl⟩

/-! ### what is wanted -/
def ExcR (K : PySem.W.Frag) (W : Wd) (n : Nat) (c : Exc) (cls : Value) (d : Option Addr) (H : Hp) : Prop :=
  (∃ C : Addr, PySem.W.nsIn K mainGlobals c.C = some (some (.ref C)) ∧ cls = .ref C) ∧ match c.fld with
    | none => d = none
    | some (f, s) => ∃ dd v, d = some dd ∧ H dd = some (.xd [(f, v)]) ∧ SvR K W n v s
def Ko {α : Type} (K : PySem.W.Frag) (E : XK) (W : Wd) (H : Hp) (μ : Mu) (r : Res α) (P : Wd → Hp → α → Mu → Prop) : Prop :=
  match r with
  | .ok a μ' => ∀ W' H', Grow W H μ W' H' μ' → Rel K W' H' μ' → P W' H' a μ'
  | .ex c μ' => ∀ W' H' cls d, Grow W H μ W' H' μ' → Rel K W' H' μ' → ExcR K W' μ'.length c cls d H' → E cls d H'
theorem Ko.later {α : Type} {K : PySem.W.Frag} {E : XK} {W W1 : Wd} {H H1 : Hp} {μ μ1 : Mu} {r : Res α} {P : Wd → Hp → α → Mu → Prop} (g : Grow W H μ W1 H1 μ1) (h : Ko K E W H μ r P) : Ko K E W1 H1 μ1 r P := by
  cases r with
  | ok a μ' => exact fun W' H' g' R => h W' H' (g.trans g') R
  | ex c μ' => exact fun W' H' cls d g' R x => h W' H' cls d (g.trans g') R x
structure Here (K : PySem.W.Frag) (W : Wd) (σ : L2.St) (H : Hp) (ρ : Rho) (μ : Mu) : Prop where
  rel : Rel K W H μ
  sl : Sls K W μ.length σ ρ
theorem Here.next {K : PySem.W.Frag} {W W' : Wd} {σ : L2.St} {H H' : Hp} {ρ : Rho} {μ μ' : Mu} (h : Here K W σ H ρ μ) (g : Grow W H μ W' H' μ') (R : Rel K W' H' μ') : Here K W' σ H' ρ μ' := ⟨R, h.sl.grow g⟩
/-- the end of an expression -/
abbrev KoV (K : PySem.W.Frag) (E : XK) (W : Wd) (H : Hp) (μ : Mu) (r : Res Sv) (Q : VK) : Prop := Ko K E W H μ r fun W' H' s μ' => ∀ v, SvR K W' μ'.length v s → Q v H'
def tX (K : PySem.W.Frag) (E : XK) (F : Rho → M Sv) : TE := fun σ H Q => ∃ W ρ μ r, Here K W σ H ρ μ ∧ F ρ μ = some r ∧ KoV K E W H μ r Q
abbrev PX (X : Cx) (E : XK) (e : Expr) (F : Rho → M Sv) : Prop := PE X e (tX X.K E F)
def tT (K : PySem.W.Frag) (E : XK) (F : Rho → M Bool) : TT := fun σ H Q => ∃ W ρ μ r, Here K W σ H ρ μ ∧ F ρ μ = some r ∧ Ko K E W H μ r fun W' H' b μ' => Q b H'
abbrev PTX (X : Cx) (E : XK) (e : Expr) (F : Rho → M Bool) : Prop := PT X e (tT X.K E F)
def tAr (K : PySem.W.Frag) (E : XK) (F : Rho → M (List Sv)) : TA := fun σ H Q => ∃ W ρ μ r, Here K W σ H ρ μ ∧ F ρ μ = some r ∧ Ko K E W H μ r fun W' H' ss μ' => ∀ vs, SvRs K W' μ'.length vs ss → Q vs H'
abbrev PAX (X : Cx) (E : XK) (es : List Expr) (F : Rho → M (List Sv)) : Prop := PA X es (tAr X.K E F)
theorem pe_weak {X : Cx} {e : Expr} {t t' : TE} (h : PE X e t) (w : ∀ σ H Q, t' σ H Q → t σ H Q) : PE X e t' := ⟨fun pins s σ H Q I q => h.run pins s σ H Q I (w _ _ _ q)⟩
theorem pt_weak {X : Cx} {e : Expr} {t t' : TT} (h : PT X e t) (w : ∀ σ H Q, t' σ H Q → t σ H Q) : PT X e t' := ⟨fun pins s σ H Q I q => h.run pins s σ H Q I (w _ _ _ q)⟩
theorem pa_weak {X : Cx} {e : List Expr} {t t' : TA} (h : PA X e t) (w : ∀ σ H Q, t' σ H Q → t σ H Q) : PA X e t' := ⟨fun pos pins s σ H Q I q => h.run pos pins s σ H Q I (w _ _ _ q)⟩
theorem ps_weak {X : Cx} {e : Stmt} {t t' : TS} (h : PS X e t) (w : ∀ D σ H, t' D σ H → t D σ H) : PS X e t' := ⟨fun pins s σ H D I q => h.run pins s σ H D I (w _ _ _ q)⟩
theorem pss_weak {X : Cx} {e : List Stmt} {t t' : TS} (h : PSs X e t) (w : ∀ D σ H, t' D σ H → t D σ H) : PSs X e t' := ⟨fun pins s σ H D I q => h.run pins s σ H D I (w _ _ _ q)⟩

section
variable {K : PySem.W.Frag} {E : XK} {W : Wd} {σ : L2.St} {H : Hp} {ρ : Rho} {μ : Mu} {α : Type}
theorem tX_bind {F : Rho → M Sv} {k : Sv → M α} {r : Res α} {P : Wd → Hp → α → Mu → Prop} {Q : VK} (h : Here K W σ H ρ μ) (e : M.bind (F ρ) k μ = some r) (q : Ko K E W H μ r P)
    (step : ∀ v s W1 H1 μ1, Grow W H μ W1 H1 μ1 → Here K W1 σ H1 ρ μ1 → SvR K W1 μ1.length v s → k s μ1 = some r → Ko K E W1 H1 μ1 r P → Q v H1) : tX K E F σ H Q := by
  rcases bind_some e with ⟨a, μ1, e1, e2⟩ | ⟨c, μ1, e1, rfl⟩
  · exact ⟨W, ρ, μ, _, h, e1, fun W1 H1 g R v hv => step v a W1 H1 μ1 g (h.next g R) hv e2 (q.later g)⟩
  · exact ⟨W, ρ, μ, _, h, e1, q⟩
theorem tT_bind {F : Rho → M Bool} {k : Bool → M α} {r : Res α} {P : Wd → Hp → α → Mu → Prop} {Q : Bool → Hp → Prop} (h : Here K W σ H ρ μ) (e : M.bind (F ρ) k μ = some r) (q : Ko K E W H μ r P)
    (step : ∀ b W1 H1 μ1, Grow W H μ W1 H1 μ1 → Here K W1 σ H1 ρ μ1 → k b μ1 = some r → Ko K E W1 H1 μ1 r P → Q b H1) : tT K E F σ H Q := by
  rcases bind_some e with ⟨a, μ1, e1, e2⟩ | ⟨c, μ1, e1, rfl⟩
  · exact ⟨W, ρ, μ, _, h, e1, fun W1 H1 g R => step a W1 H1 μ1 g (h.next g R) e2 (q.later g)⟩
  · exact ⟨W, ρ, μ, _, h, e1, q⟩
theorem tAr_bind {F : Rho → M (List Sv)} {k : List Sv → M α} {r : Res α} {P : Wd → Hp → α → Mu → Prop} {Q : List V → Hp → Prop} (h : Here K W σ H ρ μ) (e : M.bind (F ρ) k μ = some r) (q : Ko K E W H μ r P)
    (step : ∀ vs ss W1 H1 μ1, Grow W H μ W1 H1 μ1 → Here K W1 σ H1 ρ μ1 → SvRs K W1 μ1.length vs ss → k ss μ1 = some r → Ko K E W1 H1 μ1 r P → Q vs H1) : tAr K E F σ H Q := by
  rcases bind_some e with ⟨a, μ1, e1, e2⟩ | ⟨c, μ1, e1, rfl⟩
  · exact ⟨W, ρ, μ, _, h, e1, fun W1 H1 g R v hv => step v a W1 H1 μ1 g (h.next g R) hv e2 (q.later g)⟩
  · exact ⟨W, ρ, μ, _, h, e1, q⟩
end

/-! ### names, constants -/
def slot (i : Nat) (ρ : Rho) : M Sv := match ρ[i]? with
  | some (some s) => M.ret s
  | _ => M.fail
theorem slot_some {i : Nat} {ρ : Rho} {μ : Mu} {r : Res Sv} (h : slot i ρ μ = some r) : ∃ s, ρ[i]? = some (some s) ∧ r = .ok s μ := by
  unfold slot at h
  cases e : ρ[i]? with
  | none =>
    rw [e] at h
    cases h
  | some o =>
    rw [e] at h
    cases o with
    | none => cases h
    | some s =>
      cases h
      exact ⟨s, rfl, rfl⟩
def con (d : PyData) (ρ : Rho) : M Sv := M.ret (.dat d)
section
variable {X : Cx} {E : XK}
theorem x_name (i : Nat) {x : Str} {pos : Pos} (hN : X.N[i]? = some x := by rfl) (hv : Vis X.env.scope x := by first | exact Or.inl rfl | exact Or.inr (Or.inl rfl) | exact Or.inr (Or.inr rfl)) (hd : (x == ("__debug__" : Str)) = false := by decide)
    (hcd : (x == ("__classdict__" : Str)) = false := by decide) : PX X E (.Name x pos) (slot i) := pe_weak (pe_var hN hv hd hcd) fun σ H Q ⟨W, ρ, μ, r, h, e, q⟩ => by
  obtain ⟨s, hs, rfl⟩ := slot_some e
  obtain ⟨v, h1, h2⟩ := h.sl.at_ i s hs
  exact ⟨v, h1, q _ _ (Grow.refl _ _ _) h.rel _ h2⟩
theorem x_con {e : Expr} {v : V} {d : PyData} (h : PE X e (tC v)) (hd : ∀ H, Dq X.K H v d) : PX X E e (con d) := pe_weak h fun σ H Q ⟨W, ρ, μ, r, h, e, q⟩ => by
  cases e
  exact q _ _ (Grow.refl _ _ _) h.rel _ (hd _)
theorem x_int {i j pos} : PX X E (.Constant (.int i) j pos) (con (.int i)) := x_con pe_int fun _ => .int i
theorem x_bl {b j pos} : PX X E (.Constant (.bool b) j pos) (con (.bool b)) := x_con pe_bl fun _ => .bl b
theorem x_non {j pos} : PX X E (.Constant .none j pos) (con .none) := x_con pe_non fun _ => .non
theorem x_str {x j pos} : PX X E (.Constant (.str x) j pos) (con (.str x)) := x_con pe_str fun _ => .str x
theorem x_gint {x : Str} {i : Int} {u : Value} {pos : Pos} (hg : Gl X x) (hm : X.mg x = some u) (r : RelV (.int i) u) (hd : (x == ("__debug__" : Str)) = false := by decide) : PX X E (.Name x pos) (con (.int i)) := x_con (pe_glob hg hm r hd) fun _ => .int i

/-! ### operators by values -/
def rO2 (K : PySem.W.Frag) (E : XK) (op : Sv → Sv → M Sv) : R2 := fun x y H Q => ∃ W μ a b r, Rel K W H μ ∧ SvR K W μ.length x a ∧ SvR K W μ.length y b ∧ op a b μ = some r ∧ KoV K E W H μ r Q
theorem opr_weak {f : Value → Value → Sem Value} {r r' : R2} (h : OpR X f r) (w : ∀ x y H Q, r' x y H Q → r x y H Q) : OpR X f r' := fun pins s σ H x y v u Q I rx ry q => h pins s σ H x y v u Q I rx ry (w _ _ _ _ q)
theorem ixr_weak {r r' : R2} (h : IxR X r) (w : ∀ x y H Q, r' x y H Q → r x y H Q) : IxR X r' := fun a b pins s σ H x y v u Q I rx ry q => h a b pins s σ H x y v u Q I rx ry (w _ _ _ _ q)
def bin (op : Sv → Sv → M Sv) (Fa Fb : Rho → M Sv) (ρ : Rho) : M Sv := (Fa ρ).bind fun a => (Fb ρ).bind fun b => op a b
theorem bin_ent {K : PySem.W.Frag} {op : Sv → Sv → M Sv} {Fa Fb : Rho → M Sv} {σ : L2.St} {H : Hp} {Q : VK} (h : tX K E (bin op Fa Fb) σ H Q) : tOp (rO2 K E op) (tX K E Fa) (tX K E Fb) σ H Q := by
  obtain ⟨W, ρ, μ, r, h, e, q⟩ := h
  refine tX_bind h e q fun v a W1 H1 μ1 g1 h1 ra e1 q1 => tX_bind h1 e1 q1 fun u b W2 H2 μ2 g2 h2 rb e2 q2 => ?_
  exact ⟨W2, μ2, a, b, r, h2.rel, ra.grow g2, rb, e2, q2⟩
variable {a b c : Expr} {Fa Fb Fc : Rho → M Sv} {op op' : Sv → Sv → M Sv} {pos : Pos}
theorem x_bin {o : Operator} (ho : OpR X (binaryOp o) (rO2 X.K E op)) (ha : PX X E a Fa) (hb : PX X E b Fb) : PX X E (.BinOp a o b pos) (bin op Fa Fb) := pe_weak (pe_op ho ha hb) fun _ _ _ h => bin_ent h
theorem x_cmp {o : CmpOp} (ho : OpR X (compareOp o) (rO2 X.K E op)) (ha : PX X E a Fa) (hb : PX X E b Fb) (hm : behindInMarks o b = false := by first | exact nobehind _ (by decide) (by decide) | rfl) : PX X E (.Compare a [o] [b] pos) (bin op Fa Fb) :=
  pe_weak (pe_cmpR ho ha hb hm) fun _ _ _ h => bin_ent h
theorem x_ix (ho : IxR X (rO2 X.K E op)) (ha : PX X E a Fa) (hb : PX X E b Fb) (hs : PlainIx b := by intro _ _; rfl) : PX X E (.Subscript a b pos) (bin op Fa Fb) := pe_weak (pe_ix ho ha hb hs) fun _ _ _ h => bin_ent h
/-- a bool out of a value that is one -/
def asB (s : Sv) : M Bool := match s with
  | .dat (.bool b) => M.ret b
  | _ => M.fail
theorem asB_some {s : Sv} {μ : Mu} {r : Res Bool} (h : asB s μ = some r) : ∃ b, s = .dat (.bool b) ∧ r = .ok b μ := by
  unfold asB at h
  split at h
  · cases h
    exact ⟨_, rfl, rfl⟩
  · cases h
def chain (op op' : Sv → Sv → M Sv) (Fa Fb Fc : Rho → M Sv) (ρ : Rho) : M Sv := (Fa ρ).bind fun a => (Fb ρ).bind fun b => (op a b).bind fun z => (asB z).bind fun k => if k = true then (Fc ρ).bind fun c => op' b c else M.ret (.dat (.bool false))
theorem ob_bind {α : Type} {K : PySem.W.Frag} {W : Wd} {μ : Mu} {H : Hp} {x y : V} {a b : Sv} {k : Sv → M α} {r : Res α} {P : Wd → Hp → α → Mu → Prop} {Q : VK} (R : Rel K W H μ) (ra : SvR K W μ.length x a) (rb : SvR K W μ.length y b)
    (e : M.bind (op a b) k μ = some r) (q : Ko K E W H μ r P)
    (step : ∀ v s W1 H1 μ1, Grow W H μ W1 H1 μ1 → Rel K W1 H1 μ1 → SvR K W1 μ1.length v s → k s μ1 = some r → Ko K E W1 H1 μ1 r P → Q v H1) : rO2 K E op x y H Q := by
  rcases bind_some e with ⟨z, μ1, e1, e2⟩ | ⟨c, μ1, e1, rfl⟩
  · exact ⟨W, μ, a, b, _, R, ra, rb, e1, fun W1 H1 g R1 v hv => step v z W1 H1 μ1 g R1 hv e2 (q.later g)⟩
  · exact ⟨W, μ, a, b, _, R, ra, rb, e1, q⟩
theorem chain_ent {K : PySem.W.Frag} {σ : L2.St} {H : Hp} {Q : VK} (h : tX K E (chain op op' Fa Fb Fc) σ H Q) : tChain (rO2 K E op) (rO2 K E op') (tX K E Fa) (tX K E Fb) (tX K E Fc) σ H Q := by
  obtain ⟨W, ρ, μ, r, h, e, q⟩ := h
  refine tX_bind h e q fun v a W1 H1 μ1 g1 h1 ra e1 q1 => tX_bind h1 e1 q1 fun u b W2 H2 μ2 g2 h2 rb e2 q2 => ?_
  refine ob_bind h2.rel (ra.grow g2) rb e2 q2 fun z s W3 H3 μ3 g3 R3 rz e3 q3 => ?_
  rcases bind_some e3 with ⟨k, μ4, e4, e5⟩ | ⟨c, μ4, e4, rfl⟩
  · obtain ⟨k', rfl, ek⟩ := asB_some e4
    cases ek
    cases rz
    refine ⟨k, rfl, ?_⟩
    cases k with
    | false =>
      rw [if_neg Bool.false_ne_true]
      rw [if_neg Bool.false_ne_true] at e5
      cases e5
      exact q3 _ _ (Grow.refl _ _ _) R3 _ (.bl false)
    | true =>
      rw [if_pos rfl]
      rw [if_pos rfl] at e5
      exact tX_bind (h2.next g3 R3) e5 q3 fun w c W5 H5 μ5 g5 h5 rc e6 q6 => ⟨W5, μ5, b, c, r, h5.rel, (rb.grow g3).grow g5, rc, e6, q6⟩
  · obtain ⟨_, _, z⟩ := asB_some e4
    cases z
theorem x_chain {o o' : CmpOp} (ho : OpR X (compareOp o) (rO2 X.K E op)) (ho' : OpR X (compareOp o') (rO2 X.K E op')) (ha : PX X E a Fa) (hb : PX X E b Fb) (hc : PX X E c Fc)
    (hm : lastMarks [o, o'] [b, c] = false := by with_unfolding_all rfl) : PX X E (.Compare a [o, o'] [b, c] pos) (chain op op' Fa Fb Fc) := pe_weak (pe_chain ho ho' ha hb hc hm) fun _ _ _ h => chain_ent h

/-! ### and, or, not, if: values that are bools -/
def andV (Fa Fb : Rho → M Sv) (ρ : Rho) : M Sv := (Fa ρ).bind fun a => (asB a).bind fun k => if k = true then Fb ρ else M.ret (.dat (.bool false))
def notV (Fa : Rho → M Sv) (ρ : Rho) : M Sv := (Fa ρ).bind fun a => (asB a).bind fun k => M.ret (.dat (.bool (!k)))
theorem asB_bind {α : Type} {s : Sv} {k : Bool → M α} {μ : Mu} {r : Res α} (h : M.bind (asB s) k μ = some r) : ∃ b, s = .dat (.bool b) ∧ k b μ = some r := by
  rcases bind_some h with ⟨b, μ4, e4, e5⟩ | ⟨c, μ4, e4, rfl⟩
  · obtain ⟨k', rfl, ek⟩ := asB_some e4
    cases ek
    exact ⟨_, rfl, e5⟩
  · obtain ⟨_, _, z⟩ := asB_some e4
    cases z
theorem x_one {o} (h : PX X E a Fa) : PX X E (.BoolOp o [a] pos) Fa := pe_one h
theorem x_and {rest : List Expr} (ha : PX X E a Fa) (hb : PX X E (.BoolOp .And (b :: rest) pos) Fb) : PX X E (.BoolOp .And (a :: b :: rest) pos) (andV Fa Fb) := pe_weak (pe_and ha hb) fun σ H Q ⟨W, ρ, μ, r, h, e, q⟩ => by
  refine tX_bind h e q fun v a W1 H1 μ1 g1 h1 ra e1 q1 => ?_
  obtain ⟨k, rfl, e2⟩ := asB_bind e1
  cases ra
  refine ⟨k, rfl, ?_⟩
  cases k with
  | false =>
    rw [if_neg Bool.false_ne_true] at e2 ⊢
    cases e2
    exact q1 _ _ (Grow.refl _ _ _) h1.rel _ (.bl false)
  | true =>
    rw [if_pos rfl] at e2 ⊢
    exact ⟨W1, ρ, μ1, r, h1, e2, q1⟩
theorem x_not (ha : PX X E a Fa) : PX X E (.UnaryOp .Not a pos) (notV Fa) := pe_weak (pe_not ha) fun σ H Q ⟨W, ρ, μ, r, h, e, q⟩ => by
  refine tX_bind h e q fun v a W1 H1 μ1 g1 h1 ra e1 q1 => ?_
  obtain ⟨k, rfl, e2⟩ := asB_bind e1
  cases ra
  cases e2
  exact ⟨k, rfl, q1 _ _ (Grow.refl _ _ _) h1.rel _ (.bl _)⟩
/-! ### tests -/
def tst (F : Rho → M Sv) (ρ : Rho) : M Bool := (F ρ).bind asB
theorem t_val (h : PX X E a Fa) (he : ∀ whole, isTrue a X.env whole = (do let v ← whole; standAt a.pos; holding [v] (truthy v)) := by intro _; rfl) : PTX X E a (tst Fa) := pt_weak (pt_val h he) fun σ H Q ⟨W, ρ, μ, r, h, e, q⟩ => by
  refine tX_bind h e q fun v a W1 H1 μ1 g1 h1 ra e1 q1 => ?_
  obtain ⟨b, rfl, rfl⟩ := asB_some e1
  cases ra
  exact ⟨b, rfl, q1 W1 H1 (Grow.refl _ _ _) h1.rel⟩
theorem tst_ent {K : PySem.W.Frag} {σ : L2.St} {H : Hp} {Q : Bool → Hp → Prop} (h : tT K E (tst (bin op Fa Fb)) σ H Q) : tTest (tOp (rO2 K E op) (tX K E Fa) (tX K E Fb)) σ H Q := by
  obtain ⟨W, ρ, μ, r, h, e, q⟩ := h
  refine bin_ent ?_
  refine tX_bind h e q fun v a W1 H1 μ1 g1 h1 ra e1 q1 => ?_
  obtain ⟨b, rfl, rfl⟩ := asB_some e1
  cases ra
  exact ⟨b, rfl, q1 W1 H1 (Grow.refl _ _ _) h1.rel⟩
theorem t_cmp {o : CmpOp} (ho : OpR X (compareOp o) (rO2 X.K E op)) (ha : PX X E a Fa) (hb : PX X E b Fb) (hm : behindInMarks o b = false := by first | exact nobehind _ (by decide) (by decide) | rfl) : PTX X E (.Compare a [o] [b] pos) (tst (bin op Fa Fb)) :=
  pt_weak (pt_cmpR ho ha hb hm) fun _ _ _ h => tst_ent h
theorem t_chain {o o' : CmpOp} (ho : OpR X (compareOp o) (rO2 X.K E op)) (ho' : OpR X (compareOp o') (rO2 X.K E op')) (ha : PX X E a Fa) (hb : PX X E b Fb) (hc : PX X E c Fc)
    (hm : lastMarks [o, o'] [b, c] = false := by with_unfolding_all rfl) : PTX X E (.Compare a [o, o'] [b, c] pos) (tst (chain op op' Fa Fb Fc)) := pt_weak (pt_chain ho ho' ha hb hc hm) fun σ H Q ⟨W, ρ, μ, r, h, e, q⟩ => by
  refine chain_ent ?_
  refine tX_bind h e q fun v a W1 H1 μ1 g1 h1 ra e1 q1 => ?_
  obtain ⟨b, rfl, rfl⟩ := asB_some e1
  cases ra
  exact ⟨b, rfl, q1 W1 H1 (Grow.refl _ _ _) h1.rel⟩
def notT (F : Rho → M Bool) (ρ : Rho) : M Bool := (F ρ).bind fun k => M.ret (!k)
def orT (F G : Rho → M Bool) (ρ : Rho) : M Bool := (F ρ).bind fun k => if k = true then M.ret true else G ρ
theorem t_not {F : Rho → M Bool} (ha : PTX X E a F) : PTX X E (.UnaryOp .Not a pos) (notT F) := pt_weak (pt_not ha) fun σ H Q ⟨W, ρ, μ, r, h, e, q⟩ => by
  refine tT_bind h e q fun k W1 H1 μ1 g1 h1 e1 q1 => ?_
  cases e1
  exact q1 W1 H1 (Grow.refl _ _ _) h1.rel
abbrev PWX (X : Cx) (E : XK) (e : Expr) (F : Rho → M Bool) : Prop := PW X e (tT X.K E F)
theorem pw_weak {X : Cx} {e : Expr} {t t' : TT} (h : PW X e t) (w : ∀ σ H Q, t' σ H Q → t σ H Q) : PW X e t' := ⟨fun wh pins s σ H Q I q => h.run wh pins s σ H Q I (w _ _ _ q)⟩
theorem w_or1 {F : Rho → M Bool} (ha : PTX X E a F) : PWX X E (.BoolOp .Or [a] pos) F := pw_or1 ha
theorem w_or {F G : Rho → M Bool} {rest : List Expr} (ha : PTX X E a F) (hb : PWX X E (.BoolOp .Or (b :: rest) pos) G) : PWX X E (.BoolOp .Or (a :: b :: rest) pos) (orT F G) := pw_weak (pw_or ha hb) fun σ H Q ⟨W, ρ, μ, r, h, e, q⟩ => by
  refine tT_bind h e q fun k W1 H1 μ1 g1 h1 e1 q1 => ?_
  cases k with
  | true =>
    rw [if_pos rfl] at e1 ⊢
    cases e1
    exact q1 W1 H1 (Grow.refl _ _ _) h1.rel
  | false =>
    rw [if_neg Bool.false_ne_true] at e1 ⊢
    exact ⟨W1, ρ, μ1, r, h1, e1, q1⟩
theorem t_w {e : Expr} {F : Rho → M Bool} (h : PWX X E e F) : PTX X E e F := h.pt
end
end Pf

namespace Pf
open PySem PySem.Spec PyProof.Rows L2

/-! ### reading lists, laying new ones -/
/-- the items of a list (or tuple) value -/
def lsOf (s : Sv) : M (List Sv) := fun μ => match s with
  | .dat (.list ds) => some (.ok (ds.map Sv.dat) μ)
  | .ref t => match μ[t]? with
    | some (.lst xs) => some (.ok xs μ)
    | _ => none
  | _ => none
/-- a value as data, by reading -/
def rd (s : Sv) : M PyData := fun μ => match s with
  | .dat d => some (.ok d μ)
  | .ref t => match μ[t]? with
    | some (.lst xs) => (dats xs).map fun ds => .ok (.list ds) μ
    | _ => none
  | _ => none
/-- a new list: with a tag (it may be written), or as data -/
def mkl (m : Bool) (xs : List Sv) : M Sv := fun μ => match m with
  | true => some (.ok (.ref μ.length) (μ ++ [.lst xs]))
  | false => (dats xs).map fun ds => .ok (.dat (.list ds)) μ
def mkt (xs : List Sv) : M Sv := fun μ => (dats xs).map fun ds => .ok (.dat (.tuple ds)) μ
section
variable {K : PySem.W.Frag} {E : XK} {W : Wd} {H : Hp} {μ : Mu}
theorem lsOf_rel {s : Sv} {v : V} {r : Res (List Sv)} (R : Rel K W H μ) (h : SvR K W μ.length v s) (e : lsOf s μ = some r) : ∃ a vs xs, v = .ref a ∧ H a = some (.lst vs) ∧ SvRs K W μ.length vs xs ∧ r = .ok xs μ := by
  cases s with
  | dat d =>
    cases d with
    | list ds =>
      cases h with
      | lst h r =>
        cases e
        exact ⟨_, _, _, rfl, R.sub _ _ h, rel_dats r, rfl⟩
    | _ => cases e
  | ref t =>
    obtain ⟨_, rfl⟩ := h
    unfold lsOf at e
    cases q : μ[t]? with
    | none =>
      simp only [q] at e
      cases e
    | some o =>
      cases o with
      | gone =>
        simp only [q] at e
        cases e
      | lst xs =>
        simp only [q] at e
        cases e
        obtain ⟨vs, h1, h2⟩ := R.obj t _ q
        exact ⟨_, vs, xs, rfl, h1, h2, rfl⟩
  | scr ns => cases e
theorem rd_rel {s : Sv} {v : V} {r : Res PyData} (R : Rel K W H μ) (h : SvR K W μ.length v s) (e : rd s μ = some r) : ∃ d, r = .ok d μ ∧ Dq K H v d := by
  cases s with
  | dat d =>
    cases e
    exact ⟨d, rfl, Dq.mono R.sub h⟩
  | ref t =>
    obtain ⟨_, rfl⟩ := h
    unfold rd at e
    cases q : μ[t]? with
    | none =>
      simp only [q] at e
      cases e
    | some o =>
      cases o with
      | gone =>
        simp only [q] at e
        cases e
      | lst xs =>
        simp only [q] at e
        cases w : dats xs with
        | none =>
          rw [w] at e
          cases e
        | some ds =>
          rw [w] at e
          cases e
          obtain ⟨vs, h1, h2⟩ := R.obj t _ q
          exact ⟨_, rfl, .lst h1 (Dqs.mono R.sub (dats_rel h2 w))⟩
  | scr ns => cases e
theorem mkl_ok {m : Bool} {xs : List Sv} {vs : List V} {p : Addr} {r : Res Sv} {Q : VK} (R : Rel K W H μ) (hp : H p = none) (h : SvRs K W μ.length vs xs) (e : mkl m xs μ = some r) (q : KoV K E W H μ r Q) : Q (.ref p) (upd H p (.lst vs)) := by
  cases m with
  | true =>
    cases e
    have hl : (μ ++ [MObj.lst xs]).length = μ.length + 1 := by simp
    exact q _ _ (grow_alloc R hp) (R.alloc hp h) _ ⟨by omega, by rw [Wd.tag_self]⟩
  | false =>
    have e' : (dats xs).map (fun ds => Res.ok (Sv.dat (.list ds)) μ) = some r := e
    cases w : dats xs with
    | none =>
      rw [w] at e'
      cases e'
    | some ds =>
      rw [w] at e'
      cases e'
      have g : Grow W H μ (W.put p (.lst vs)) (upd H p (.lst vs)) μ := grow_share R hp
      exact q _ _ g (R.share hp) _ (.lst upd_same (Dqs.mono g.same (dats_rel h w)))
theorem mkt_ok {xs : List Sv} {vs : List V} {p : Addr} {r : Res Sv} {Q : VK} (R : Rel K W H μ) (hp : H p = none) (h : SvRs K W μ.length vs xs) (e : mkt xs μ = some r) (q : KoV K E W H μ r Q) : Q (.ref p) (upd H p (.tup vs)) := by
  have e' : (dats xs).map (fun ds => Res.ok (Sv.dat (.tuple ds)) μ) = some r := e
  cases w : dats xs with
  | none =>
    rw [w] at e'
    cases e'
  | some ds =>
    rw [w] at e'
    cases e'
    have g : Grow W H μ (W.put p (.tup vs)) (upd H p (.tup vs)) μ := grow_share R hp
    exact q _ _ g (R.share hp) _ (.tup (SqT.of upd_same) (Dqs.mono g.same (dats_rel h w)))
theorem dq_tup (R : Rel K W H μ) {p : Addr} {vs : List V} {ds : List PyData} {r : Res Sv} {Q : VK} (hp : H p = none) (h : Dqs K W.S vs ds) (e : (M.ret (.dat (.tuple ds)) : M Sv) μ = some r) (q : KoV K E W H μ r Q) : Q (.ref p) (upd H p (.tup vs)) := by
  cases e
  have g : Grow W H μ (W.put p (.tup vs)) (upd H p (.tup vs)) μ := grow_share R hp
  exact q _ _ g (R.share hp) _ (.tup (SqT.of upd_same) (Dqs.mono g.same h))
end

/-! ### data without dicts is the layer's -/
section
variable {K : PySem.W.Frag} {H : Hp}
mutual
theorem Dq.dp : ∀ {v : V} {d : PyData}, Dq K H v d → d.canLay0 = true → Dp K H v d
  | _, _, .non, _ => .non
  | _, _, .bl b, _ => .bl b
  | _, _, .int i, _ => .int i
  | _, _, .str x, _ => .str x
  | _, _, .lst h r, c => .lst (SqL.of h) (Dqs.dp r (by simpa [PyData.canLay0] using c))
  | _, _, .tup h r, c => .tup h (Dqs.dp r (by simpa [PyData.canLay0] using c))
  | _, _, .dct h r, c => by simp [PyData.canLay0] at c
  | _, _, .ins h hn r, c => by simp [PyData.canLay0] at c
theorem Dqs.dp : ∀ {v : List V} {d : List PyData}, Dqs K H v d → PyData.canLayAll0 d = true → DpAll K H v d
  | _, _, .nil, _ => .nil
  | _, d :: ds, .cons h r, c => by
    have c' : d.canLay0 = true ∧ PyData.canLayAll0 ds = true := by simpa [PyData.canLayAll0] using c
    exact .cons (Dq.dp h c'.1) (Dqs.dp r c'.2)
end
end

/-! ### the operators -/
def szOk (n : Nat) : Bool := decide (n ≤ 1000000)
theorem szOk_line {n : Nat} (h : szOk n = true) : n ≤ sizeLine := by
  have := of_decide_eq_true h
  rw [sizeLine_eq]
  omega
theorem szOk_lt {n : Nat} (h : szOk n = true) : n < sizeLine := by
  have := of_decide_eq_true h
  rw [sizeLine_eq]
  omega
def pAdd (m : Bool) (a b : Sv) : M Sv := match a, b with
  | .dat (.int i), .dat (.int j) => M.ret (.dat (.int (i + j)))
  | .dat (.tuple xs), .dat (.tuple ys) => if szOk (xs.length + ys.length) = true then M.ret (.dat (.tuple (xs ++ ys))) else M.fail
  | .dat (.str x), .dat (.str y) => if szOk (x.length + y.length) = true then M.ret (.dat (.str (x ++ y))) else M.fail
  | .dat (.list xs), b => (lsOf b).bind fun ys => if szOk (xs.length + ys.length) = true then mkl m (xs.map Sv.dat ++ ys) else M.fail
  | .ref t, b => (lsOf (.ref t)).bind fun xs => (lsOf b).bind fun ys => if szOk (xs.length + ys.length) = true then mkl m (xs ++ ys) else M.fail
  | _, _ => M.fail
def pSub (a b : Sv) : M Sv := match a, b with
  | .dat (.int i), .dat (.int j) => M.ret (.dat (.int (i - j)))
  | _, _ => M.fail
def small (i : Int) : Bool := decide (-(2 ^ 64) < i) && decide (i < 2 ^ 64)
def pMul (m : Bool) (a b : Sv) : M Sv := match a, b with
  | .dat (.int i), .dat (.int j) => if (small i || small j) = true then M.ret (.dat (.int (i * j))) else M.fail
  | .dat (.list xs), .dat (.int k) => if (small (2 * k) && szOk (xs.length * k.toNat)) = true then mkl m (List.replicate k.toNat (xs.map Sv.dat)).flatten else M.fail
  | _, _ => M.fail
def pFdiv (a b : Sv) : M Sv := match a, b with
  | .dat (.int i), .dat (.int j) => if (decide (0 < j) && decide (j < 1073741824)) = true then M.ret (.dat (.int (i / j))) else M.fail
  | _, _ => M.fail
def pMod (a b : Sv) : M Sv := match a, b with
  | .dat (.int i), .dat (.int j) => if decide (0 < j) = true then M.ret (.dat (.int (i % j))) else M.fail
  | _, _ => M.fail
def pPow (a b : Sv) : M Sv := match a, b with
  | .dat (.int i), .dat (.int j) => if (decide (0 ≤ j) && decide (j ≤ 1000000) && decide (i.natAbs < 2 ^ 64)) = true then M.ret (.dat (.int (i ^ j.toNat))) else M.fail
  | _, _ => M.fail
def pCmp (f : Int → Int → Bool) (a b : Sv) : M Sv := match a, b with
  | .dat (.int i), .dat (.int j) => M.ret (.dat (.bool (f i j)))
  | _, _ => M.fail
abbrev pLt := pCmp fun i j => decide (i < j)
abbrev pLe := pCmp fun i j => decide (i ≤ j)
abbrev pGt := pCmp fun i j => decide (j < i)
abbrev pGe := pCmp fun i j => decide (j ≤ i)
def pEqD (n : Bool) (a b : Sv) : M Sv := (rd a).bind fun d => (rd b).bind fun e => if (SeqAt.shaped d && SeqAt.shaped e) = true then M.ret (.dat (.bool (Bool.xor n (PyData.eqv d e)))) else M.fail
/-- == of two texts, of two ints; of other data -/
def pEqn (n : Bool) (a b : Sv) : M Sv := match a, b with
  | .dat (.str x), .dat (.str y) => M.ret (.dat (.bool (Bool.xor n (decide (x = y)))))
  | .dat (.int x), .dat (.int y) => M.ret (.dat (.bool (Bool.xor n (decide (x = y)))))
  | a, b => pEqD n a b
abbrev pEq := pEqn false
abbrev pNe := pEqn true
def isNon : Sv → Bool
  | .dat .none => true
  | _ => false
def pIs (n : Bool) (a b : Sv) : M Sv := match b with
  | .dat .none => M.ret (.dat (.bool (Bool.xor n (isNon a))))
  | _ => M.fail
def orFail {α : Type} (o : Option α) : M α := fun μ => o.map fun a => .ok a μ
def pIx (a b : Sv) : M Sv := match b with
  | .dat (.int i) => match a with
    | .dat (.tuple xs) => (orFail (atI xs i)).bind fun d => M.ret (.dat d)
    | .dat (.str z) => (orFail (if szOk z.length = true then atI z.cps.toList i else none)).bind fun c => M.ret (.dat (.str ⟨#[c]⟩))
    | a => (lsOf a).bind fun xs => orFail (atI xs i)
  | _ => M.fail
theorem iff_ok {α : Type} {c : Bool} {m : M α} {μ : Mu} {r : Res α} (h : (if c = true then m else M.fail) μ = some r) : c = true ∧ m μ = some r := by
  cases c with
  | true =>
    rw [if_pos rfl] at h
    exact ⟨rfl, h⟩
  | false =>
    rw [if_neg Bool.false_ne_true] at h
    cases h
theorem orFail_some {α β : Type} {o : Option α} {k : α → M β} {μ : Mu} {r : Res β} (h : M.bind (orFail o) k μ = some r) : ∃ a, o = some a ∧ k a μ = some r := by
  cases o with
  | none => cases h
  | some a => exact ⟨a, rfl, h⟩
theorem lsOf_bind {α : Type} {s : Sv} {k : List Sv → M α} {μ : Mu} {r : Res α} (h : M.bind (lsOf s) k μ = some r) : ∃ xs, lsOf s μ = some (.ok xs μ) ∧ k xs μ = some r := by
  rcases bind_some h with ⟨xs, μ1, e1, e2⟩ | ⟨c, μ1, e1, rfl⟩
  · have : μ1 = μ := by
      unfold lsOf at e1
      split at e1
      · cases e1; rfl
      · split at e1
        · cases e1; rfl
        · cases e1
      · cases e1
    subst this
    exact ⟨xs, e1, e2⟩
  · unfold lsOf at e1
    split at e1
    · cases e1
    · split at e1 <;> cases e1
    · cases e1
theorem rd_bind {α : Type} {s : Sv} {k : PyData → M α} {μ : Mu} {r : Res α} (h : M.bind (rd s) k μ = some r) : ∃ d, rd s μ = some (.ok d μ) ∧ k d μ = some r := by
  rcases bind_some h with ⟨d, μ1, e1, e2⟩ | ⟨c, μ1, e1, rfl⟩
  · have : μ1 = μ := by
      unfold rd at e1
      split at e1
      · cases e1; rfl
      · split at e1
        · rename_i xs _
          cases q : dats xs with
          | none => rw [q] at e1; cases e1
          | some ds => rw [q] at e1; cases e1; rfl
        · cases e1
      · cases e1
    subst this
    exact ⟨d, e1, e2⟩
  · unfold rd at e1
    split at e1
    · cases e1
    · split at e1
      · rename_i xs _
        cases q : dats xs with
        | none => rw [q] at e1; cases e1
        | some ds => rw [q] at e1; cases e1
      · cases e1
    · cases e1
section
variable {X : Cx} {E : XK}
theorem dq_int {K : PySem.W.Frag} {H : Hp} {v : V} {i : Int} (h : Dq K H v (.int i)) : v = .int i := by
  cases h
  rfl
theorem atI_rel {K : PySem.W.Frag} {H : Hp} {vs : List V} {ds : List PyData} {i : Int} {d : PyData} (h : Dqs K H vs ds) (e : atI ds i = some d) : ∃ v, atI vs i = some v ∧ Dq K H v d := by
  unfold atI at e ⊢
  rw [h.len]
  cases q : ixN ds.length i with
  | none =>
    rw [q] at e
    cases e
  | some j =>
    rw [q] at e
    obtain ⟨v, h1, h2⟩ := h.getD (i := j) e
    exact ⟨v, h1, h2⟩
theorem atI_rels {K : PySem.W.Frag} {W : Wd} {n : Nat} {vs : List V} {xs : List Sv} {i : Int} {x : Sv} (h : SvRs K W n vs xs) (e : atI xs i = some x) : ∃ v, atI vs i = some v ∧ SvR K W n v x := by
  unfold atI at e ⊢
  rw [h.len]
  cases q : ixN xs.length i with
  | none =>
    rw [q] at e
    cases e
  | some j =>
    rw [q] at e
    obtain ⟨v, h1, h2⟩ := h.get (i := j) e
    exact ⟨v, h1, h2⟩
theorem o_sub : OpR X (binaryOp .Sub) (rO2 X.K E pSub) := opr_weak op_sub fun x y H Q ⟨W, μ, a, b, r, R, ra, rb, e, q⟩ => by
  unfold pSub at e
  split at e
  · cases e
    exact ⟨_, _, dq_int ra, dq_int rb, q _ _ (Grow.refl _ _ _) R _ (.int _)⟩
  · cases e
theorem o_fdiv : OpR X (binaryOp .FloorDiv) (rO2 X.K E pFdiv) := opr_weak op_fdiv fun x y H Q ⟨W, μ, a, b, r, R, ra, rb, e, q⟩ => by
  unfold pFdiv at e
  split at e
  · obtain ⟨c, e⟩ := iff_ok e
    cases e
    have c' := Bool.and_eq_true_iff.mp c
    exact ⟨_, _, dq_int ra, dq_int rb, ⟨of_decide_eq_true c'.1, of_decide_eq_true c'.2⟩, q _ _ (Grow.refl _ _ _) R _ (.int _)⟩
  · cases e
theorem o_mod : OpR X (binaryOp .Mod) (rO2 X.K E pMod) := opr_weak op_mod fun x y H Q ⟨W, μ, a, b, r, R, ra, rb, e, q⟩ => by
  unfold pMod at e
  split at e
  · obtain ⟨c, e⟩ := iff_ok e
    cases e
    exact ⟨_, _, dq_int ra, dq_int rb, of_decide_eq_true c, q _ _ (Grow.refl _ _ _) R _ (.int _)⟩
  · cases e
theorem o_pow : OpR X (binaryOp .Pow) (rO2 X.K E pPow) := opr_weak op_pow fun x y H Q ⟨W, μ, a, b, r, R, ra, rb, e, q⟩ => by
  unfold pPow at e
  split at e
  · obtain ⟨c, e⟩ := iff_ok e
    cases e
    have c' := Bool.and_eq_true_iff.mp c
    have c2 := Bool.and_eq_true_iff.mp c'.1
    exact ⟨_, _, dq_int ra, dq_int rb, ⟨of_decide_eq_true c2.1, of_decide_eq_true c2.2, of_decide_eq_true c'.2⟩, q _ _ (Grow.refl _ _ _) R _ (.int _)⟩
  · cases e
theorem o_cmp {o : CmpOp} {f : Int → Int → Bool} (h : OpR X (compareOp o) (rI0 fun i j => .bl (f i j))) : OpR X (compareOp o) (rO2 X.K E (pCmp f)) := opr_weak h fun x y H Q ⟨W, μ, a, b, r, R, ra, rb, e, q⟩ => by
  unfold pCmp at e
  split at e
  · cases e
    exact ⟨_, _, dq_int ra, dq_int rb, q _ _ (Grow.refl _ _ _) R _ (.bl _)⟩
  · cases e
theorem o_lt : OpR X (compareOp .Lt) (rO2 X.K E pLt) := o_cmp op_lt
theorem o_le : OpR X (compareOp .LtE) (rO2 X.K E pLe) := o_cmp op_le
theorem o_gt : OpR X (compareOp .Gt) (rO2 X.K E pGt) := o_cmp op_gt
theorem o_ge : OpR X (compareOp .GtE) (rO2 X.K E pGe) := o_cmp op_ge
theorem eqn_ent {K : PySem.W.Frag} {n : Bool} {x y : V} {H : Hp} {Q : VK} (h : rO2 K E (pEqD n) x y H Q) : ∃ d e, Dp K H x d ∧ Dp K H y e ∧ SeqAt.shaped d = true ∧ SeqAt.shaped e = true ∧ Q (.bl (Bool.xor n (PyData.eqv d e))) H := by
  obtain ⟨W, μ, a, b, r, R, ra, rb, e, q⟩ := h
  obtain ⟨d, e1, e⟩ := rd_bind e
  obtain ⟨c, e2, e⟩ := rd_bind e
  obtain ⟨g, e⟩ := iff_ok e
  obtain ⟨g1, g2⟩ := Bool.and_eq_true_iff.mp g
  obtain ⟨d', z1, h1⟩ := rd_rel R ra e1
  obtain ⟨c', z2, h2⟩ := rd_rel R rb e2
  cases z1
  cases z2
  cases e
  exact ⟨d, c, h1.dp (SeqAt.canLay_of_shaped g1), h2.dp (SeqAt.canLay_of_shaped g2), g1, g2, q _ _ (Grow.refl _ _ _) R _ (.bl _)⟩
theorem eq_ent {K : PySem.W.Frag} {n : Bool} {x y : V} {H : Hp} {Q : VK} (h : rO2 K E (pEqn n) x y H Q) :
    (scal x y = true ∧ Q (.bl (Bool.xor n (decide (x = y)))) H) ∨ ∃ d e, Dp K H x d ∧ Dp K H y e ∧ SeqAt.shaped d = true ∧ SeqAt.shaped e = true ∧ Q (.bl (Bool.xor n (PyData.eqv d e))) H := by
  obtain ⟨W, μ, a, b, r, R, ra, rb, e, q⟩ := h
  unfold pEqn at e
  split at e
  · rename_i u v
    cases e
    cases ra
    cases rb
    refine .inl ⟨rfl, ?_⟩
    have z : decide (V.str u = V.str v) = decide (u = v) := by
      by_cases h : u = v
      · rw [h]
        simp
      · rw [decide_eq_false h, decide_eq_false fun z => h (V.str.inj z)]
    rw [z]
    exact q _ _ (Grow.refl _ _ _) R _ (.bl _)
  · rename_i u v
    cases e
    cases ra
    cases rb
    refine .inl ⟨rfl, ?_⟩
    have z : decide (V.int u = V.int v) = decide (u = v) := by
      by_cases h : u = v
      · rw [h]
        simp
      · rw [decide_eq_false h, decide_eq_false fun z => h (V.int.inj z)]
    rw [z]
    exact q _ _ (Grow.refl _ _ _) R _ (.bl _)
  · exact .inr (eqn_ent ⟨W, μ, a, b, r, R, ra, rb, e, q⟩)
theorem o_eq (hu : X.A.units + 64 < cLine) : OpR X (compareOp .Eq) (rO2 X.K E pEq) := opr_weak (op_eq.or (op_eqD hu)) fun x y H Q h => by
  rcases eq_ent h with ⟨h1, q⟩ | ⟨d, e, h1, h2, g1, g2, q⟩
  · rw [Bool.false_xor] at q
    exact .inl ⟨h1, q⟩
  · rw [Bool.false_xor] at q
    exact .inr ⟨d, e, h1, h2, g1, g2, q⟩
theorem o_ne (hu : X.A.units + 64 < cLine) : OpR X (compareOp .NotEq) (rO2 X.K E pNe) := opr_weak (op_ne.or (op_neD hu)) fun x y H Q h => by
  rcases eq_ent h with ⟨h1, q⟩ | ⟨d, e, h1, h2, g1, g2, q⟩
  · rw [Bool.true_xor] at q
    exact .inl ⟨h1, q⟩
  · rw [Bool.true_xor] at q
    exact .inr ⟨d, e, h1, h2, g1, g2, q⟩
theorem isNon_rel {K : PySem.W.Frag} {W : Wd} {n : Nat} {v : V} {s : Sv} (h : SvR K W n v s) : isNon s = decide (v = .non) := by
  cases s with
  | ref t =>
    obtain ⟨_, rfl⟩ := h
    rfl
  | scr ns =>
    obtain ⟨_, rfl, _⟩ := h
    rfl
  | dat d => cases h <;> rfl
theorem o_isnot : OpR X (compareOp .IsNot) (rO2 X.K E (pIs true)) := opr_weak op_notN fun x y H Q ⟨W, μ, a, b, r, R, ra, rb, e, q⟩ => by
  unfold pIs at e
  split at e
  · cases rb
    cases e
    rw [isNon_rel ra] at q
    exact ⟨rfl, q _ _ (Grow.refl _ _ _) R _ (by rw [Bool.true_xor]; exact .bl _)⟩
  · cases e
theorem o_add {m : Bool} : OpR X (binaryOp .Add) (rO2 X.K E (pAdd m)) := by
  refine opr_weak ((op_add (X := X)).or (op_catA.or (op_add_str.or op_cat))) fun x y H Q ⟨W, μ, a, b, r, R, ra, rb, e, q⟩ => ?_
  unfold pAdd at e
  split at e
  · cases e
    exact .inl ⟨_, _, dq_int ra, dq_int rb, q _ _ (Grow.refl _ _ _) R _ (.int _)⟩
  · obtain ⟨c, e⟩ := iff_ok e
    cases ra with
    | tup h1 r1 =>
      cases rb with
      | tup h2 r2 =>
        refine .inr (.inl ⟨_, _, _, _, rfl, rfl, seqT_mono R.sub h1, seqT_mono R.sub h2, by rw [r1.len, r2.len]; exact szOk_line c, fun z => ?_, fun _ z => ?_, fun _ _ p hp => dq_tup R hp (r1.append r2) e q⟩)
        · subst z
          cases r1
          cases e
          exact q _ _ (Grow.refl _ _ _) R _ (.tup h2 r2)
        · subst z
          cases r2
          cases e
          rw [List.append_nil] at q
          exact q _ _ (Grow.refl _ _ _) R _ (.tup h1 r1)
  · obtain ⟨c, e⟩ := iff_ok e
    cases e
    cases ra
    cases rb
    exact .inr (.inr (.inl ⟨_, _, rfl, rfl, szOk_line c, q _ _ (Grow.refl _ _ _) R _ (.str _)⟩))
  · rename_i xs
    obtain ⟨ys, e1, e⟩ := lsOf_bind e
    obtain ⟨c, e⟩ := iff_ok e
    cases ra with
    | lst h1 r1 =>
      obtain ⟨p2, vs2, xs2, rfl, h2, r2, z⟩ := lsOf_rel R rb e1
      cases z
      refine .inr (.inr (.inr ⟨_, _, _, _, rfl, rfl, R.sub _ _ h1, h2, ?_, fun p hp => mkl_ok R hp ((rel_dats r1).append r2) e q⟩))
      rw [r1.len, r2.len]
      exact szOk_line c
  · obtain ⟨xs, e0, e⟩ := lsOf_bind e
    obtain ⟨ys, e1, e⟩ := lsOf_bind e
    obtain ⟨c, e⟩ := iff_ok e
    obtain ⟨p1, vs1, xs1, rfl, h1, r1, z⟩ := lsOf_rel R ra e0
    cases z
    obtain ⟨p2, vs2, xs2, rfl, h2, r2, z⟩ := lsOf_rel R rb e1
    cases z
    refine .inr (.inr (.inr ⟨_, _, _, _, rfl, rfl, h1, h2, ?_, fun p hp => mkl_ok R hp (r1.append r2) e q⟩))
    rw [r1.len, r2.len]
    exact szOk_line c
  · cases e
theorem flat_rels {K : PySem.W.Frag} {W : Wd} {n : Nat} {vs : List V} {xs : List Sv} (h : SvRs K W n vs xs) : ∀ k : Nat, SvRs K W n (List.replicate k vs).flatten (List.replicate k xs).flatten
  | 0 => .nil
  | k + 1 => by
    rw [List.replicate_succ, List.replicate_succ, List.flatten_cons, List.flatten_cons]
    exact h.append (flat_rels h k)
theorem small_ok {i : Int} (h : small i = true) : -(2 ^ 64) < i ∧ i < 2 ^ 64 := by
  have c := Bool.and_eq_true_iff.mp h
  exact ⟨of_decide_eq_true c.1, of_decide_eq_true c.2⟩
theorem o_mul {m : Bool} : OpR X (binaryOp .Mult) (rO2 X.K E (pMul m)) := by
  refine opr_weak ((op_mul (X := X)).or op_rep) fun x y H Q ⟨W, μ, a, b, r, R, ra, rb, e, q⟩ => ?_
  unfold pMul at e
  split at e
  · obtain ⟨c, e⟩ := iff_ok e
    cases e
    refine .inl ⟨_, _, dq_int ra, dq_int rb, ?_, q _ _ (Grow.refl _ _ _) R _ (.int _)⟩
    rcases Bool.or_eq_true_iff.mp c with c | c
    · exact .inl (small_ok c)
    · exact .inr (small_ok c)
  · obtain ⟨c, e⟩ := iff_ok e
    obtain ⟨c1, c2⟩ := Bool.and_eq_true_iff.mp c
    have c3 := small_ok c1
    cases ra with
    | lst h1 r1 =>
      refine .inr ⟨_, _, _, rfl, dq_int rb, R.sub _ _ h1, by omega, by omega, by rw [r1.len]; exact szOk_line c2, fun p hp => mkl_ok R hp (flat_rels (rel_dats r1) _) e q⟩
  · cases e
theorem o_ix : IxR X (rO2 X.K E pIx) := by
  refine ixr_weak ix_seq fun x y H Q ⟨W, μ, a, b, r, R, ra, rb, e, q⟩ => ?_
  unfold pIx at e
  split at e
  · rename_i i
    have rb' := dq_int rb
    subst rb'
    split at e
    · obtain ⟨d, e1, e⟩ := orFail_some e
      cases e
      cases ra with
      | tup h1 r1 =>
        obtain ⟨v, a1, a2⟩ := atI_rel r1 e1
        exact .inr (.inl ⟨_, _, _, v, rfl, rfl, seqT_mono R.sub h1, a1, q _ _ (Grow.refl _ _ _) R _ a2⟩)
    · obtain ⟨d, e1, e⟩ := orFail_some e
      cases e
      cases ra
      split at e1
      · rename_i hz
        exact .inr (.inr ⟨_, _, _, rfl, rfl, szOk_line hz, e1, q _ _ (Grow.refl _ _ _) R _ (.str _)⟩)
      · cases e1
    · obtain ⟨xs, e0, e⟩ := lsOf_bind e
      obtain ⟨p1, vs1, xs1, rfl, h1, r1, z⟩ := lsOf_rel R ra e0
      cases z
      cases w : atI xs i with
      | none =>
        rw [w] at e
        cases e
      | some d =>
        rw [w] at e
        cases e
        obtain ⟨v, a1, a2⟩ := atI_rels r1 w
        exact .inl ⟨_, _, _, v, rfl, rfl, SqL.of h1, a1, q _ _ (Grow.refl _ _ _) R _ a2⟩
  · cases e
end
end Pf

namespace Pf
open PySem PySem.Spec PyProof.Rows L2

section
variable {X : Cx} {E : XK} {e a b c : Expr} {es : List Expr} {Fa Fb Fc : Rho → M Sv} {Fs : Rho → M (List Sv)} {pos p : Pos}
/-! ### arguments, displays -/
def argN (_ : Rho) : M (List Sv) := M.ret []
def argC (Fa : Rho → M Sv) (Fs : Rho → M (List Sv)) (ρ : Rho) : M (List Sv) := (Fa ρ).bind fun a => (Fs ρ).bind fun r => M.ret (a :: r)
theorem a_nil : PAX X E [] argN := pa_weak pa_nil fun σ H Q ⟨W, ρ, μ, r, h, e, q⟩ => by
  cases e
  exact q _ _ (Grow.refl _ _ _) h.rel _ .nil
theorem a_cons (ha : PX X E a Fa) (hr : PAX X E es Fs) (hs : starEach (a :: es) X.env = (false, eval a X.env) :: starEach es X.env := by rfl) : PAX X E (a :: es) (argC Fa Fs) := pa_weak (pa_cons ha hr hs) fun σ H Q ⟨W, ρ, μ, r, h, e, q⟩ => by
  refine tX_bind h e q fun v a W1 H1 μ1 g1 h1 ra e1 q1 => tAr_bind h1 e1 q1 fun vs ss W2 H2 μ2 g2 h2 rs e2 q2 => ?_
  cases e2
  exact q2 _ _ (Grow.refl _ _ _) h2.rel _ (.cons (ra.grow g2) rs)
def tupV (Fs : Rho → M (List Sv)) (ρ : Rho) : M Sv := (Fs ρ).bind fun ss => if szOk ss.length = true then mkt ss else M.fail
def lstV (m : Bool) (Fs : Rho → M (List Sv)) (ρ : Rho) : M Sv := (Fs ρ).bind fun ss => if szOk ss.length = true then mkl m ss else M.fail
theorem x_tup {k : Nat} (ha : PAX X E es Fs) : PX X E (.Tuple es k pos) (tupV Fs) := pe_weak (pe_tup ha) fun σ H Q ⟨W, ρ, μ, r, h, e, q⟩ => by
  refine tAr_bind h e q fun vs ss W1 H1 μ1 g1 h1 rs e1 q1 => ?_
  obtain ⟨c, e1⟩ := iff_ok e1
  exact ⟨by rw [rs.len]; exact szOk_line c, fun p hp => mkt_ok h1.rel hp rs e1 q1⟩
theorem x_lst (m : Bool) (ha : PAX X E es Fs) : PX X E (.List es pos) (lstV m Fs) := pe_weak (pe_lst ha) fun σ H Q ⟨W, ρ, μ, r, h, e, q⟩ => by
  refine tAr_bind h e q fun vs ss W1 H1 μ1 g1 h1 rs e1 q1 => ?_
  obtain ⟨c, e1⟩ := iff_ok e1
  exact ⟨by rw [rs.len]; exact szOk_line c, fun p hp => mkl_ok h1.rel hp rs e1 q1⟩

/-! ### a mutable list becomes data -/
def frz (s : Sv) : M Sv := fun μ => match s with
  | .dat d => some (.ok (.dat d) μ)
  | .ref t => match μ[t]? with
    | some (.lst xs) => (dats xs).map fun ds => .ok (.dat (.list ds)) (μ.set t .gone)
    | _ => none
  | _ => none
/-! ### built-in calls by values -/
def rC (K : PySem.W.Frag) (E : XK) (op : List Sv → M Sv) : List V → Hp → VK → Prop := fun xs H Q => ∃ W μ ss r, Rel K W H μ ∧ SvRs K W μ.length xs ss ∧ op ss μ = some r ∧ KoV K E W H μ r Q
theorem callr_weak {f : Value} {r r' : List V → Hp → VK → Prop} (h : CallR X f r) (w : ∀ xs H Q, r' xs H Q → r xs H Q) : CallR X f r' := fun pins s σ H xs us Q I rv q => h pins s σ H xs us Q I rv (w _ _ _ q)
def callV (op : List Sv → M Sv) (Fs : Rho → M (List Sv)) (ρ : Rho) : M Sv := (Fs ρ).bind op
theorem callV_ent {K : PySem.W.Frag} {op : List Sv → M Sv} {σ : L2.St} {H : Hp} {Q : VK} (h : tX K E (callV op Fs) σ H Q) : tCB (rC K E op) (tAr K E Fs) σ H Q := by
  obtain ⟨W, ρ, μ, r, h, e, q⟩ := h
  exact tAr_bind h e q fun vs ss W1 H1 μ1 g1 h1 rs e1 q1 => ⟨W1, μ1, ss, r, h1.rel, rs, e1, q1⟩
theorem x_callB {id : String} {x : Str} {op : List Sv → M Sv} (hc : CallR X (.builtin id) (rC X.K E op)) (hg : Gl X x) (hm : X.mg x = none) (hv : bootBuiltins x = some (.builtin id)) (ha : PAX X E (e :: es) Fs) (hn : x ≠ "__name__" := by decide) (hdb : (x == ("__debug__" : Str)) = false := by decide)
    (he : starEach (e :: es) X.env = (false, eval e X.env) :: starEach es X.env := by rfl) (hpl : (backTo pos (starEach es X.env)).any (·.1) = false := by rfl) : PX X E (.Call (.Name x p) (e :: es) [] pos) (callV op Fs) :=
  pe_weak (pe_callB hc hg hm hv ha hn hdb he hpl) fun _ _ _ h => callV_ent h
theorem x_callTy {id : String} {x : Str} {op : List Sv → M Sv} (hc : CallR X (.type id) (rC X.K E op)) (hg : Gl X x) (hm : X.mg x = none) (hv : bootBuiltins x = some (.type id)) (ha : PAX X E (e :: es) Fs) (hn : x ≠ "__name__" := by decide) (hdb : (x == ("__debug__" : Str)) = false := by decide)
    (he : starEach (e :: es) X.env = (false, eval e X.env) :: starEach es X.env := by rfl) (hpl : (backTo pos (starEach es X.env)).any (·.1) = false := by rfl) : PX X E (.Call (.Name x p) (e :: es) [] pos) (callV op Fs) :=
  pe_weak (pe_callTy hc hg hm hv ha hn hdb he hpl) fun _ _ _ h => callV_ent h
theorem rels1 {K : PySem.W.Frag} {W : Wd} {n : Nat} {xs : List V} {s : Sv} (h : SvRs K W n xs [s]) : ∃ x, xs = [x] ∧ SvR K W n x s := by
  cases h with
  | cons h r =>
    cases r
    exact ⟨_, rfl, h⟩
theorem rels2 {K : PySem.W.Frag} {W : Wd} {n : Nat} {xs : List V} {s t : Sv} (h : SvRs K W n xs [s, t]) : ∃ x y, xs = [x, y] ∧ SvR K W n x s ∧ SvR K W n y t := by
  cases h with
  | cons h r =>
    obtain ⟨y, rfl, h2⟩ := rels1 r
    exact ⟨_, y, rfl, h, h2⟩
def bLen (ss : List Sv) : M Sv := match ss with
  | [.dat (.tuple ds)] => M.ret (.dat (.int ds.length))
  | [.dat (.str x)] => if szOk x.length = true then M.ret (.dat (.int x.length)) else M.fail
  | [s] => (lsOf s).bind fun xs => M.ret (.dat (.int xs.length))
  | _ => M.fail
theorem b_len : CallR X (.builtin "len") (rC X.K E bLen) := callr_weak call_len fun xs H Q ⟨W, μ, ss, r, R, rs, e, q⟩ => by
  unfold bLen at e
  split at e
  · cases e
    obtain ⟨x, rfl, h⟩ := rels1 rs
    cases h with
    | tup h1 r1 => exact ⟨_, _, rfl, .inr ⟨_, seqT_mono R.sub h1, rfl⟩, q _ _ (Grow.refl _ _ _) R _ (by rw [r1.len]; exact .int _)⟩
  · obtain ⟨c, e⟩ := iff_ok e
    cases e
    obtain ⟨x, rfl, h⟩ := rels1 rs
    cases h
    exact ⟨_, _, rfl, ⟨szOk_line c, rfl⟩, q _ _ (Grow.refl _ _ _) R _ (.int _)⟩
  · obtain ⟨x, rfl, h⟩ := rels1 rs
    obtain ⟨ys, e0, e⟩ := lsOf_bind e
    obtain ⟨p1, vs1, xs1, rfl, h1, r1, z⟩ := lsOf_rel R h e0
    cases z
    cases e
    exact ⟨_, _, rfl, .inl ⟨_, SqL.of h1, rfl⟩, q _ _ (Grow.refl _ _ _) R _ (by rw [r1.len]; exact .int _)⟩
  · cases e
def bAbs (ss : List Sv) : M Sv := match ss with
  | [.dat (.int i)] => M.ret (.dat (.int (if i < 0 then -i else i)))
  | _ => M.fail
theorem b_abs : CallR X (.builtin "abs") (rC X.K E bAbs) := callr_weak call_abs fun xs H Q ⟨W, μ, ss, r, R, rs, e, q⟩ => by
  unfold bAbs at e
  split at e
  · cases e
    obtain ⟨x, rfl, h⟩ := rels1 rs
    cases h
    exact ⟨_, rfl, q _ _ (Grow.refl _ _ _) R _ (.int _)⟩
  · cases e
def bMax2 (ss : List Sv) : M Sv := match ss with
  | [.dat (.int i), .dat (.int j)] => M.ret (.dat (.int (if j > i then j else i)))
  | _ => M.fail
theorem b_max2 (hc : X.calm = true := by rfl) : CallR X (.builtin "max") (rC X.K E bMax2) := callr_weak (call_max2 hc) fun xs H Q ⟨W, μ, ss, r, R, rs, e, q⟩ => by
  unfold bMax2 at e
  split at e
  · cases e
    obtain ⟨x, y, rfl, h, h2⟩ := rels2 rs
    cases h
    cases h2
    exact ⟨_, _, rfl, q _ _ (Grow.refl _ _ _) R _ (.int _)⟩
  · cases e
/-- ints in a list of data -/
def asInts : List PyData → Option (List Int)
  | [] => some []
  | .int i :: r => (asInts r).map (i :: ·)
  | _ :: _ => none
theorem ints_map (ns : List Int) : asInts (ns.map PyData.int) = some ns := by
  induction ns with
  | nil => rfl
  | cons n ns ih =>
    show (asInts (ns.map PyData.int)).map (n :: ·) = _
    rw [ih]
    rfl
def bTuple (ss : List Sv) : M Sv := match ss with
  | [.dat (.tuple ds)] => M.ret (.dat (.tuple ds))
  | [s] => (lsOf s).bind fun xs => mkt xs
  | _ => M.fail
theorem b_tuple : CallR X (.type "tuple") (rC X.K E bTuple) := callr_weak call_tuple_of fun xs H Q ⟨W, μ, ss, r, R, rs, e, q⟩ => by
  unfold bTuple at e
  split at e
  · cases e
    obtain ⟨x, rfl, h⟩ := rels1 rs
    have h0 := h
    cases h with
    | tup h1 r1 => exact ⟨_, _, rfl, .inr ⟨seqT_mono R.sub h1, q _ _ (Grow.refl _ _ _) R _ h0⟩⟩
  · obtain ⟨x, rfl, h⟩ := rels1 rs
    obtain ⟨ys, e0, e⟩ := lsOf_bind e
    obtain ⟨p1, vs1, xs1, rfl, h1, r1, z⟩ := lsOf_rel R h e0
    cases z
    exact ⟨_, _, rfl, .inl ⟨SqL.of h1, fun l hl => mkt_ok R hl r1 e q⟩⟩
  · cases e
def bList (m : Bool) (ss : List Sv) : M Sv := match ss with
  | [.dat (.tuple ds)] => mkl m (ds.map Sv.dat)
  | [s] => (lsOf s).bind fun xs => mkl m xs
  | _ => M.fail
theorem b_list {m : Bool} : CallR X (.type "list") (rC X.K E (bList m)) := callr_weak call_list_of fun xs H Q ⟨W, μ, ss, r, R, rs, e, q⟩ => by
  unfold bList at e
  split at e
  · obtain ⟨x, rfl, h⟩ := rels1 rs
    cases h with
    | tup h1 r1 => exact ⟨_, _, rfl, .inr (seqT_mono R.sub h1), fun l hl => mkl_ok R hl (rel_dats r1) e q⟩
  · obtain ⟨x, rfl, h⟩ := rels1 rs
    obtain ⟨ys, e0, e⟩ := lsOf_bind e
    obtain ⟨p1, vs1, xs1, rfl, h1, r1, z⟩ := lsOf_rel R h e0
    cases z
    exact ⟨_, _, rfl, .inl (SqL.of h1), fun l hl => mkl_ok R hl r1 e q⟩
  · cases e

/-! ### repr -/
def okShow (d : PyData) : Bool := d.showable && decide (d.depth ≤ 60) && szOk d.shown.length && noOb d
def bRepr (ss : List Sv) : M Sv := match ss with
  | [s] => (rd s).bind fun d => if okShow d = true then M.ret (.dat (.str d.shown)) else M.fail
  | _ => M.fail
theorem b_repr (hg : X.A.guards = some []) (hu : X.A.units + 64 < cLine) : CallR X (.builtin "repr") (rC X.K E bRepr) := by
  intro pins s σ H xs us Q I rv ⟨W, μ, ss, r, R, rs, e, q⟩
  unfold bRepr at e
  split at e
  · obtain ⟨x, rfl, h⟩ := rels1 rs
    obtain ⟨u, rfl, rx⟩ := vals1 rv
    obtain ⟨d, e1, e⟩ := rd_bind e
    obtain ⟨d', z1, h1⟩ := rd_rel R h e1
    cases z1
    obtain ⟨c, e⟩ := iff_ok e
    cases e
    obtain ⟨c, c5⟩ := Bool.and_eq_true_iff.mp c
    obtain ⟨c, c4⟩ := Bool.and_eq_true_iff.mp c
    obtain ⟨c1, c3⟩ := Bool.and_eq_true_iff.mp c
    have hd := of_decide_eq_true c3
    have done : ∀ h' t tk, (∀ b o, s.heap.get? b = some o → h'.get? b = some o) → EP X pins σ Q (.str d.shown t) { s with heap := h', toks := tk } := fun h' t tk k =>
      ⟨.str d.shown, H, I.kept k, ⟨t, rfl⟩, q _ _ (Grow.refl _ _ _) R _ (.str _)⟩
    obtain ⟨as, hr, hb⟩ := Dq.reads I h1 c5 rx
    have hsm : d.hasDict = true → sysModules ∉ as := fun _ => hb R.sm
    have line : d.shown.length ≤ sizeLine := szOk_line c4
    have refs : ∀ a, u = .ref a → wpAny (model X.prog X.w) X.A (call (.builtin "repr") [u]) (EP X pins σ Q) X.xe s := fun a ea => by
      subst ea
      exact repr_of_reads' hr c1 hsm hg (by omega) (fun _ _ z => z) (fun h' t tk k => done h' t tk k) line
    cases h1 with
    | non =>
      cases (show u = Value.none from rx)
      exact P.repr_of_none (done _ _ _ fun _ _ z => z)
    | bl b =>
      cases (show u = Value.bool b from rx)
      exact P.repr_of_bool (done _ _ _ fun _ _ z => z)
    | int i =>
      obtain ⟨t, rfl⟩ := rx
      exact P.repr_of_int (of_decide_eq_true (by simpa only [PyData.showable] using c1)) (done _ _ _ fun _ _ z => z)
    | str y =>
      obtain ⟨t, rfl⟩ := rx
      exact P.repr_of_str (done _ _ _ fun _ _ z => z) line
    | lst h2 r2 => exact refs _ rx
    | tup h2 r2 => exact refs _ rx
    | dct h2 r2 => exact refs _ rx
    | ins h2 hn r2 => exact refs _ rx
  · cases e
/-! ### isinstance -/
def tyN : Sv → String
  | .dat .none => "NoneType"
  | .dat (.bool _) => "bool"
  | .dat (.int _) => "int"
  | .dat (.str _) => "str"
  | .dat (.list _) => "list"
  | .dat (.tuple _) => "tuple"
  | .dat (.dict _) => "dict"
  | _ => "list"
def isi (n : String) (s : Sv) (μ : Mu) : Option (Res Sv) := match s, kitB (tyN s) n with
  | .dat d, some b => if isOb d = true then (if n ∈ kitTys then some (.ok (.dat (.bool false)) μ) else none) else some (.ok (.dat (.bool b)) μ)
  | .ref t, some b => match μ[t]? with
    | some (.lst _) => some (.ok (.dat (.bool b)) μ)
    | _ => none
  | _, _ => none
theorem ty_rel {K : PySem.W.Frag} {H : Hp} {v : V} {d : PyData} (h : Dq K H v d) (nb : isOb d = false) : TyX K H v (.type (tyN (.dat d))) := by
  cases h with
  | non => exact .base .non
  | bl b => exact .base (.bl b)
  | int i => exact .base (.int i)
  | str x => exact .base (.str x)
  | lst h r => exact .base (.lst h)
  | tup h r =>
    rcases h with (h | ⟨o, h⟩) | ⟨o, its, n, h, hc, _⟩
    · exact .base (.tup h)
    · exact .fTuple h
    · exact .kTuple h hc
  | dct h r => exact .base (.dK h)
  | ins h hn r => cases nb
def isiV (n : String) (Fa : Rho → M Sv) (ρ : Rho) : M Sv := (Fa ρ).bind (isi n)
theorem x_isi {x y : Str} {n : String} {p p2 pos : Pos} (hg : Gl X x) (hm : X.mg x = none) (hv : bootBuiltins x = some (.builtin "isinstance")) (hg2 : Gl X y) (hm2 : X.mg y = none) (hv2 : bootBuiltins y = some (.type n)) (ha : PX X E a Fa)
    (hn : x ≠ "__name__" := by decide) (hdb : (x == ("__debug__" : Str)) = false := by decide) (hn2 : y ≠ "__name__" := by decide) (hdb2 : (y == ("__debug__" : Str)) = false := by decide)
    (he : starEach [a, .Name y p2] X.env = (false, eval a X.env) :: starEach [.Name y p2] X.env := by rfl) (he2 : starEach [.Name y p2] X.env = (false, eval (.Name y p2) X.env) :: starEach [] X.env := by rfl) (hpl : (backTo pos (starEach [.Name y p2] X.env)).any (·.1) = false := by rfl) :
    PX X E (.Call (.Name x p) [a, .Name y p2] [] pos) (isiV n Fa) :=
  pe_weak (pe_callB call_isi hg hm hv (pa_cons ha (pa_cons (pe_bltn (v := .ty n) hg2 hm2 hv2 rfl hn2 hdb2) pa_nil he2) he) hn hdb he hpl) fun σ H Q ⟨W, ρ, μ, r, h, e, q⟩ => by
    refine tX_bind h e q fun v s W1 H1 μ1 g1 h1 rs e1 q1 => ?_
    unfold isi at e1
    split at e1
    · rename_i d b hk
      by_cases nb : isOb d = true
      · rw [if_pos nb] at e1
        split at e1
        · rename_i hk2
          cases e1
          have rs : Dq X.K W1.S v d := rs
          obtain ⟨a, C, dx, nm, fs, ds, rfl, rfl, hh, hn, rq⟩ := rs.ob nb
          exact ⟨_, .ty n, _, _, false, rfl, .ty n, .base (.ins (h1.rel.sub _ _ hh) hn.cl hn.ha hn.hn hn.htk hn.hm), hn.no n hk2, q1 _ _ (Grow.refl _ _ _) h1.rel _ (.bl false)⟩
        · cases e1
      rw [if_neg nb] at e1
      cases e1
      have nb : isOb d = false := by
        cases q : isOb d with
        | false => rfl
        | true => exact absurd q nb
      exact ⟨v, .ty n, _, _, b, rfl, .ty n, ty_rel (Dq.mono h1.rel.sub rs) nb, kit_ty hk, q1 _ _ (Grow.refl _ _ _) h1.rel _ (.bl b)⟩
    · rename_i t b hk
      obtain ⟨_, rfl⟩ := rs
      split at e1
      · rename_i xs hx
        cases e1
        obtain ⟨vs, z, _⟩ := h1.rel.obj t _ hx
        exact ⟨_, .ty n, _, _, b, rfl, .ty n, .base (.lst z), kit_ty hk, q1 _ _ (Grow.refl _ _ _) h1.rel _ (.bl b)⟩
      · cases e1
    · cases e1
end
end Pf

namespace Pf
open PySem PySem.Spec PyProof.Rows L2

section
variable {X : Cx} {E : XK} {e a b c lo hi : Expr} {es : List Expr} {Fa Fb Fc : Rho → M Sv} {Fs : Rho → M (List Sv)} {pos p p2 : Pos}
/-! ### slices -/
def tPO (K : PySem.W.Frag) (E : XK) (F : Rho → M (Option Int)) : TO := fun σ H Q => ∃ W ρ μ r, Here K W σ H ρ μ ∧ F ρ μ = some r ∧ Ko K E W H μ r fun W' H' o μ' => Q o H'
abbrev POX (X : Cx) (E : XK) (e : Option Expr) (F : Rho → M (Option Int)) : Prop := PO X e (tPO X.K E F)
theorem po_weak {X : Cx} {e : Option Expr} {t t' : TO} (h : PO X e t) (w : ∀ σ H Q, t' σ H Q → t σ H Q) : PO X e t' := ⟨fun pins s σ H Q I q => h.run pins s σ H Q I (w _ _ _ q)⟩
def noPart (_ : Rho) : M (Option Int) := M.ret none
def asI (s : Sv) : M Int := match s with
  | .dat (.int i) => M.ret i
  | _ => M.fail
def aPart (F : Rho → M Sv) (ρ : Rho) : M (Option Int) := (F ρ).bind fun s => (asI s).bind fun i => M.ret (some i)
theorem asI_bind {α : Type} {s : Sv} {k : Int → M α} {μ : Mu} {r : Res α} (h : M.bind (asI s) k μ = some r) : ∃ i, s = .dat (.int i) ∧ k i μ = some r := by
  unfold asI at h
  split at h
  · exact ⟨_, rfl, h⟩
  · cases h
theorem o_none : POX X E none noPart := po_weak po_none fun σ H Q ⟨W, ρ, μ, r, h, e, q⟩ => by
  cases e
  exact q _ _ (Grow.refl _ _ _) h.rel
theorem o_some (h : PX X E a Fa) : POX X E (some a) (aPart Fa) := po_weak (po_some h) fun σ H Q ⟨W, ρ, μ, r, h, e, q⟩ => by
  refine tX_bind h e q fun v s W1 H1 μ1 g1 h1 rs e1 q1 => ?_
  obtain ⟨i, rfl, e1⟩ := asI_bind e1
  cases rs
  cases e1
  exact ⟨i, rfl, q1 _ _ (Grow.refl _ _ _) h1.rel⟩
theorem tPO_bind {α : Type} {K : PySem.W.Frag} {W : Wd} {σ : L2.St} {H : Hp} {ρ : Rho} {μ : Mu} {F : Rho → M (Option Int)} {k : Option Int → M α} {r : Res α} {P : Wd → Hp → α → Mu → Prop} {Q : Option Int → Hp → Prop} (h : Here K W σ H ρ μ) (e : M.bind (F ρ) k μ = some r) (q : Ko K E W H μ r P)
    (step : ∀ b W1 H1 μ1, Grow W H μ W1 H1 μ1 → Here K W1 σ H1 ρ μ1 → k b μ1 = some r → Ko K E W1 H1 μ1 r P → Q b H1) : tPO K E F σ H Q := by
  rcases bind_some e with ⟨a, μ1, e1, e2⟩ | ⟨c, μ1, e1, rfl⟩
  · exact ⟨W, ρ, μ, _, h, e1, fun W1 H1 g R => step a W1 H1 μ1 g (h.next g R) e2 (q.later g)⟩
  · exact ⟨W, ρ, μ, _, h, e1, q⟩
def cutL {α : Type} (xs : List α) (lo hi : Option Int) : List α := (xs.drop (HT.sIx xs.length 0 lo)).take (HT.sIx xs.length xs.length hi - HT.sIx xs.length 0 lo)
def pSl (m : Bool) (s : Sv) (lo hi : Option Int) : M Sv := match s with
  | .dat (.tuple ds) => M.ret (.dat (.tuple (cutL ds lo hi)))
  | .dat (.str z) => if szOk z.length = true then M.ret (.dat (.str (cutS z lo hi))) else M.fail
  | .scr ns => mkl m ((cutL ns lo hi).map fun n => .dat (.int n))
  | s => (lsOf s).bind fun xs => mkl m (cutL xs lo hi)
theorem int_rels {K : PySem.W.Frag} {W : Wd} {n : Nat} : ∀ ns : List Int, SvRs K W n (ns.map V.int) (ns.map fun i => .dat (.int i))
  | [] => .nil
  | i :: r => .cons (.int i) (int_rels r)
theorem cut_map (ns : List Int) (lo hi : Option Int) : cutV (ns.map V.int) lo hi = (cutL ns lo hi).map V.int := by
  unfold cutV cutL
  rw [List.length_map, List.map_take, List.map_drop]
theorem cut_whole {α : Type} {xs : List α} {lo hi : Option Int} (h : HT.sIx xs.length 0 lo = 0 ∧ HT.sIx xs.length xs.length hi = xs.length) : cutL xs lo hi = xs := by
  unfold cutL
  rw [h.1, h.2, List.drop_zero, Nat.sub_zero, List.take_length]
theorem cut_rel {K : PySem.W.Frag} {H : Hp} {vs : List V} {ds : List PyData} {lo hi : Option Int} (h : Dqs K H vs ds) : Dqs K H (cutV vs lo hi) (cutL ds lo hi) := by
  unfold cutV cutL
  rw [h.len]
  exact (h.drop _).take _
theorem rels_take {K : PySem.W.Frag} {W : Wd} {n : Nat} : ∀ {v : List V} {x : List Sv} (k : Nat), SvRs K W n v x → SvRs K W n (v.take k) (x.take k)
  | _, _, 0, _ => .nil
  | _, _, _ + 1, .nil => .nil
  | _, _, k + 1, .cons r t => .cons r (rels_take k t)
theorem rels_drop {K : PySem.W.Frag} {W : Wd} {n : Nat} : ∀ {v : List V} {x : List Sv} (k : Nat), SvRs K W n v x → SvRs K W n (v.drop k) (x.drop k)
  | _, _, 0, r => r
  | _, _, _ + 1, .nil => .nil
  | _, _, k + 1, .cons _ t => rels_drop k t
theorem cut_rels {K : PySem.W.Frag} {W : Wd} {n : Nat} {vs : List V} {xs : List Sv} {lo hi : Option Int} (h : SvRs K W n vs xs) : SvRs K W n (cutV vs lo hi) (cutL xs lo hi) := by
  unfold cutV cutL
  rw [h.len]
  exact rels_take _ (rels_drop _ h)
def slV (m : Bool) (Fa : Rho → M Sv) (Fl Fh : Rho → M (Option Int)) (ρ : Rho) : M Sv := (Fa ρ).bind fun s => (Fl ρ).bind fun lo => (Fh ρ).bind fun hi => pSl m s lo hi
theorem x_slice (m : Bool) {lo hi : Option Expr} {Fl Fh : Rho → M (Option Int)} (he : PX X E a Fa) (hl : POX X E lo Fl) (hu : POX X E hi Fh) : PX X E (.Subscript a (.Slice lo hi none p2) pos) (slV m Fa Fl Fh) :=
  pe_weak (pe_slice ((sl_tupA (X := X)).or (sl_str.or sl_list)) he hl hu) fun σ H Q ⟨W, ρ, μ, r, h, e, q⟩ => by
    refine tX_bind h e q fun v s W1 H1 μ1 g1 h1 rs e1 q1 => tPO_bind h1 e1 q1 fun lo W2 H2 μ2 g2 h2 e2 q2 => tPO_bind h2 e2 q2 fun hi W3 H3 μ3 g3 h3 e3 q3 => ?_
    have rs' := (rs.grow g2).grow g3
    unfold pSl at e3
    split at e3
    · cases e3
      cases rs' with
      | tup h4 r4 =>
        refine .inl ⟨_, _, rfl, seqT_mono h3.rel.sub h4, fun z => ?_, fun z p hp => ?_⟩
        · rw [r4.len] at z
          rw [cut_whole z] at q3
          exact q3 _ _ (Grow.refl _ _ _) h3.rel _ (.tup h4 r4)
        · exact dq_tup h3.rel hp (cut_rel r4) rfl q3
    · obtain ⟨c, e3⟩ := iff_ok e3
      cases e3
      cases rs'
      exact .inr (.inl ⟨_, rfl, szOk_line c, q3 _ _ (Grow.refl _ _ _) h3.rel _ (.str _)⟩)
    · obtain ⟨a, rfl, ha⟩ := rs'
      refine .inr (.inr ⟨_, _, rfl, h3.rel.sub.seq ha, fun p hp => ?_⟩)
      rw [cut_map]
      exact mkl_ok h3.rel hp (int_rels _) e3 q3
    · obtain ⟨xs, e4, e3⟩ := lsOf_bind e3
      obtain ⟨p1, vs1, xs1, rfl, h4, r4, z⟩ := lsOf_rel h3.rel rs' e4
      cases z
      exact .inr (.inr ⟨_, _, rfl, SqL.of h4, fun p hp => mkl_ok h3.rel hp (cut_rels r4) e3 q3⟩)
theorem x_neg (ha : PX X E a Fa) : PX X E (.UnaryOp .USub a pos) (fun ρ => (Fa ρ).bind fun s => (asI s).bind fun i => M.ret (.dat (.int (-i)))) := pe_weak (pe_un un_neg ha) fun σ H Q ⟨W, ρ, μ, r, h, e, q⟩ => by
  refine tX_bind h e q fun v s W1 H1 μ1 g1 h1 rs e1 q1 => ?_
  obtain ⟨i, rfl, e1⟩ := asI_bind e1
  cases rs
  cases e1
  exact ⟨i, rfl, q1 _ _ (Grow.refl _ _ _) h1.rel _ (.int _)⟩

/-! ### xs.append(e), xs.pop() on tagged lists -/
def wrt (t : Nat) (xs : List Sv) : M PUnit := fun μ => some (.ok ⟨⟩ (μ.set t (.lst xs)))
def tagOf (s : Sv) : M (Nat × List Sv) := fun μ => match s with
  | .ref t => match μ[t]? with
    | some (.lst xs) => some (.ok (t, xs) μ)
    | _ => none
  | _ => none
theorem tag_bind {α : Type} {s : Sv} {k : Nat × List Sv → M α} {μ : Mu} {r : Res α} (h : M.bind (tagOf s) k μ = some r) : ∃ t xs, s = .ref t ∧ μ[t]? = some (.lst xs) ∧ k (t, xs) μ = some r := by
  cases s with
  | dat d => cases h
  | scr d => cases h
  | ref t =>
    cases q : μ[t]? with
    | none =>
      unfold M.bind tagOf at h
      simp only [q] at h
      cases h
    | some o =>
      cases o with
      | gone =>
        unfold M.bind tagOf at h
        simp only [q] at h
        cases h
      | lst xs =>
        unfold M.bind tagOf at h
        simp only [q] at h
        exact ⟨t, xs, rfl, q, h⟩
theorem write_rel {α : Type} {K : PySem.W.Frag} {W : Wd} {H : Hp} {μ : Mu} {t : Nat} {ys xs : List Sv} {vs : List V} {k : PUnit → M α} {r : Res α} (R : Rel K W H μ) (e : μ[t]? = some (.lst ys)) (h : SvRs K W μ.length vs xs) (e2 : M.bind (wrt t xs) k μ = some r) :
    Rel K W (upd H (W.η t) (.lst vs)) (μ.set t (.lst xs)) ∧ Grow W H μ W (upd H (W.η t) (.lst vs)) (μ.set t (.lst xs)) ∧ k ⟨⟩ (μ.set t (.lst xs)) = some r :=
  ⟨R.write e h, grow_write e, e2⟩
def appV (Fa : Rho → M Sv) (Fb : Rho → M Sv) (ρ : Rho) : M Sv := (Fa ρ).bind fun o => (tagOf o).bind fun _ => (Fb ρ).bind fun x => (tagOf o).bind fun z => if szOk (z.2.length + 1) = true then (wrt z.1 (z.2 ++ [x])).bind fun _ => M.ret (.dat .none) else M.fail
theorem x_append {apos : Pos} (ho : PX X E a Fa) (hb : PX X E b Fb)
    (hbase : attributeBase a "append" X.env (eval a X.env) = eval a X.env := by rfl)
    (hfew : ((backTo pos (starEach [b] X.env)).all (fun x => !x.1) && (backToKw pos (keywordEach [] X.env)).all (fun x => x.1.isSome) && decide (([b] : List Expr).length + ([] : List Keyword).length + (if ([] : List Keyword).isEmpty then 0 else 1) < 30)) = true := by rfl)
    (hline : (apos.endLine == pos.line) = true := by rfl) (hs : starEach [b] X.env = (false, eval b X.env) :: starEach [] X.env := by rfl) (hplain : (backTo pos (starEach [] X.env)).any (·.1) = false := by rfl) :
    PX X E (.Call (.Attribute a "append" apos) [b] [] pos) (appV Fa Fb) :=
  pe_weak (pe_bm PySem.F.plainAttrs_list PySem.F.slot_list_append PySem.F.type_list_append mt_append ho (pa_cons hb pa_nil hs) hbase hfew hline hs hplain) fun σ H Q ⟨W, ρ, μ, r, h, e, q⟩ => by
    refine tX_bind h e q fun v o W1 H1 μ1 g1 h1 ro e1 q1 => ?_
    obtain ⟨t, xs, rfl, et, e1⟩ := tag_bind e1
    obtain ⟨ht, rfl⟩ := ro
    obtain ⟨vs, z1, z2⟩ := h1.rel.obj t _ et
    refine ⟨.inl ⟨rfl, vs, SqL.of z1⟩, ?_⟩
    refine tX_bind h1 e1 q1 fun u x W2 H2 μ2 g2 h2 rx e2 q2 => ?_
    obtain ⟨t', ys, te, et2, e2⟩ := tag_bind e2
    cases te
    obtain ⟨us, y1, y2⟩ := h2.rel.obj t _ et2
    obtain ⟨c, e2⟩ := iff_ok e2
    have ra : SvRs X.K W2 μ2.length (us ++ [u]) (ys ++ [x]) := y2.append (.cons rx .nil)
    obtain ⟨R3, g3, e3⟩ := write_rel h2.rel et2 ra e2
    cases e3
    refine ⟨W1.η t, us, u, rfl, rfl, ?_, ?_, ?_⟩
    · rw [← g2.at_ t ht]
      exact y1
    · rw [y2.len]
      have : ys.length + 1 < sizeLine := szOk_lt c
      omega
    · rw [← g2.at_ t ht]
      exact q2 _ _ g3 R3 _ .non
end

/-! ### statements -/
inductive Out where
  | nx (ρ : Rho)
  | rt (s : Sv)
  | bk (ρ : Rho)
  | ct (ρ : Rho)
def OutOk (K : PySem.W.Frag) (D : Ends) (W : Wd) (H : Hp) (o : Out) (μ : Mu) : Prop := match o with
  | .nx ρ => ∀ σ, Sls K W μ.length σ ρ → D.nx σ H
  | .rt s => ∀ v, SvR K W μ.length v s → D.rt v H
  | .bk ρ => ∀ σ, Sls K W μ.length σ ρ → D.bk σ H
  | .ct ρ => ∀ σ, Sls K W μ.length σ ρ → D.ct σ H
def tG (K : PySem.W.Frag) (E : XK) (G : Rho → M Out) : TS := fun D σ H => ∃ W ρ μ r, Here K W σ H ρ μ ∧ G ρ μ = some r ∧ Ko K E W H μ r (OutOk K D)
abbrev PSX (X : Cx) (E : XK) (st : Stmt) (G : Rho → M Out) : Prop := PS X st (tG X.K E G)
abbrev PSSX (X : Cx) (E : XK) (st : List Stmt) (G : Rho → M Out) : Prop := PSs X st (tG X.K E G)
section
variable {X : Cx} {E : XK} {e a b c : Expr} {Fa Fb Fc : Rho → M Sv} {G G' : Rho → M Out} {st : Stmt} {rest body : List Stmt} {pos p : Pos}
theorem tG_bind {α : Type} {K : PySem.W.Frag} {W : Wd} {σ : L2.St} {H : Hp} {ρ : Rho} {μ : Mu} {k : Out → M α} {r : Res α} {P : Wd → Hp → α → Mu → Prop} {D : Ends} (h : Here K W σ H ρ μ) (e : M.bind (G ρ) k μ = some r) (q : Ko K E W H μ r P)
    (step : ∀ o W1 H1 μ1, Grow W H μ W1 H1 μ1 → Rel K W1 H1 μ1 → k o μ1 = some r → Ko K E W1 H1 μ1 r P → OutOk K D W1 H1 o μ1) : tG K E G D σ H := by
  rcases bind_some e with ⟨a, μ1, e1, e2⟩ | ⟨c, μ1, e1, rfl⟩
  · exact ⟨W, ρ, μ, _, h, e1, fun W1 H1 g R => step a W1 H1 μ1 g R e2 (q.later g)⟩
  · exact ⟨W, ρ, μ, _, h, e1, q⟩
def gSkip (ρ : Rho) : M Out := M.ret (.nx ρ)
def gSeq (G G' : Rho → M Out) (ρ : Rho) : M Out := (G ρ).bind fun o => match o with
  | .nx ρ' => G' ρ'
  | o => M.ret o
theorem q_nil : PSSX X E [] gSkip := pss_weak pss_nil fun D σ H ⟨W, ρ, μ, r, h, e, q⟩ => by
  cases e
  exact q _ _ (Grow.refl _ _ _) h.rel _ h.sl
theorem q_one (h : PSX X E st G) : PSSX X E [st] G := pss_one h
theorem q_cons (h : PSX X E st G) (h2 : PSSX X E rest G') : PSSX X E (st :: rest) (gSeq G G') := pss_weak (pss_cons h h2) fun D σ H ⟨W, ρ, μ, r, h, e, q⟩ => by
  refine tG_bind h e q fun o W1 H1 μ1 g R e1 q1 => ?_
  cases o with
  | nx ρ' => exact fun σ' s' => ⟨W1, ρ', μ1, r, ⟨R, s'⟩, e1, q1⟩
  | rt s =>
    cases e1
    exact q1 _ _ (Grow.refl _ _ _) R
  | bk ρ' =>
    cases e1
    exact q1 _ _ (Grow.refl _ _ _) R
  | ct ρ' =>
    cases e1
    exact q1 _ _ (Grow.refl _ _ _) R
def gExpr (Fa : Rho → M Sv) (ρ : Rho) : M Out := (Fa ρ).bind fun _ => M.ret (.nx ρ)
theorem s_expr (ha : PX X E a Fa) (hs : swapsWith a none pos.line X.env = pure false := by rfl) : PSX X E (.Expr a pos) (gExpr Fa) := ps_weak (ps_expr ha hs) fun D σ H ⟨W, ρ, μ, r, h, e, q⟩ => by
  refine tX_bind h e q fun v s W1 H1 μ1 g1 h1 rs e1 q1 => ?_
  cases e1
  exact q1 _ _ (Grow.refl _ _ _) h1.rel _ h1.sl
def gRet (Fa : Rho → M Sv) (ρ : Rho) : M Out := (Fa ρ).bind fun s => M.ret (.rt s)
theorem s_ret (ha : PX X E a Fa) : PSX X E (.Return (some a) pos) (gRet Fa) := ps_weak (ps_ret ha) fun D σ H ⟨W, ρ, μ, r, h, e, q⟩ => by
  refine tX_bind h e q fun v s W1 H1 μ1 g1 h1 rs e1 q1 => ?_
  cases e1
  exact q1 _ _ (Grow.refl _ _ _) h1.rel _ rs
def gIf (F : Rho → M Bool) (G G' : Rho → M Out) (ρ : Rho) : M Out := (F ρ).bind fun k => if k = true then G ρ else G' ρ
theorem s_if {F : Rho → M Bool} {els : List Stmt} (hc : PTX X E c F) (ha : PSSX X E body G) (hb : PSSX X E els G') : PSX X E (.If c body els pos) (gIf F G G') := ps_weak (ps_if hc ha hb) fun D σ H ⟨W, ρ, μ, r, h, e, q⟩ => by
  refine tT_bind h e q fun k W1 H1 μ1 g1 h1 e1 q1 => ?_
  cases k with
  | false =>
    rw [if_neg Bool.false_ne_true] at e1 ⊢
    exact ⟨W1, ρ, μ1, r, h1, e1, q1⟩
  | true =>
    rw [if_pos rfl] at e1 ⊢
    exact ⟨W1, ρ, μ1, r, h1, e1, q1⟩
/-! targets -/
def tP (K : PySem.W.Frag) (E : XK) (T : Sv → Rho → M Rho) : TG := fun v σ H Q => ∃ W ρ μ s r, Here K W σ H ρ μ ∧ SvR K W μ.length v s ∧ T s ρ μ = some r ∧ Ko K E W H μ r fun W' H' ρ' μ' => ∀ σ', Sls K W' μ'.length σ' ρ' → Q σ' H'
def tPs (K : PySem.W.Frag) (E : XK) (T : List Sv → Rho → M Rho) : TGs := fun v σ H Q => ∃ W ρ μ s r, Here K W σ H ρ μ ∧ SvRs K W μ.length v s ∧ T s ρ μ = some r ∧ Ko K E W H μ r fun W' H' ρ' μ' => ∀ σ', Sls K W' μ'.length σ' ρ' → Q σ' H'
abbrev PGX (X : Cx) (E : XK) (tg : Expr) (T : Sv → Rho → M Rho) : Prop := PG X tg (tP X.K E T)
abbrev PGsX (X : Cx) (E : XK) (tg : List Expr) (T : List Sv → Rho → M Rho) : Prop := PGs X tg (tPs X.K E T)
theorem pg_weak {X : Cx} {tg : Expr} {t t' : TG} (h : PG X tg t) (w : ∀ v σ H Q, t' v σ H Q → t v σ H Q) : PG X tg t' := ⟨fun pins s σ H v u Q I r q => h.run pins s σ H v u Q I r (w _ _ _ _ q)⟩
theorem pgs_weak {X : Cx} {tg : List Expr} {t t' : TGs} (h : PGs X tg t) (w : ∀ v σ H Q, t' v σ H Q → t v σ H Q) : PGs X tg t' := ⟨fun pins s σ H v u Q I r q => h.run pins s σ H v u Q I r (w _ _ _ _ q)⟩
def gNm (i : Nat) (s : Sv) (ρ : Rho) : M Rho := M.ret (ρ.set i (some s))
theorem pg_nm (i : Nat) {x : Str} (hN : X.N.Nodup) (hi : X.N[i]? = some x := by rfl) (hx : Loc X.env.scope x := by first | exact Or.inl rfl | exact Or.inr rfl) (hf : X.fn x = true ∨ X.env.scope.names.lookup x = some .local := by first | exact .inl rfl | exact .inr rfl) : PGX X E (.Name x pos) (gNm i) :=
  pg_weak (pg_name hN hi hx hf) fun v σ H Q ⟨W, ρ, μ, s, r, h, rs, e, q⟩ => by
    cases e
    exact q _ _ (Grow.refl _ _ _) h.rel _ (h.sl.set i rs)
def gsNil (ss : List Sv) (ρ : Rho) : M Rho := match ss with
  | [] => M.ret ρ
  | _ => M.fail
def gsCons (T : Sv → Rho → M Rho) (U : List Sv → Rho → M Rho) (ss : List Sv) (ρ : Rho) : M Rho := match ss with
  | s :: r => (T s ρ).bind fun ρ' => U r ρ'
  | _ => M.fail
theorem pgs_0 : PGsX X E [] gsNil := pgs_weak pgs_nil fun v σ H Q ⟨W, ρ, μ, s, r, h, rs, e, q⟩ => by
  unfold gsNil at e
  split at e
  · cases e
    cases rs
    exact ⟨rfl, q _ _ (Grow.refl _ _ _) h.rel _ h.sl⟩
  · cases e
theorem pgs_c {t : Expr} {ts : List Expr} {T : Sv → Rho → M Rho} {U : List Sv → Rho → M Rho} (h1 : PGX X E t T) (h2 : PGsX X E ts U) (hs : (assignEach (t :: ts) X.env).map (·.2) = assign t X.env :: (assignEach ts X.env).map (·.2) := by rfl) : PGsX X E (t :: ts) (gsCons T U) := pgs_weak (pgs_cons h1 h2 hs) fun v σ H Q ⟨W, ρ, μ, s, r, h, rs, e, q⟩ => by
  unfold gsCons at e
  split at e
  · cases rs with
    | cons r1 r2 =>
      refine ⟨_, _, rfl, ?_⟩
      rcases bind_some e with ⟨ρ', μ1, e1, e2⟩ | ⟨c, μ1, e1, rfl⟩
      · exact ⟨W, ρ, μ, _, _, h, r1, e1, fun W1 H1 g R σ1 s1 => ⟨W1, ρ', μ1, _, _, ⟨R, s1⟩, SvRs.grow g r2, e2, q.later g⟩⟩
      · exact ⟨W, ρ, μ, _, _, h, r1, e1, q⟩
  · cases e
def gTp (n : Nat) (U : List Sv → Rho → M Rho) (s : Sv) (ρ : Rho) : M Rho := match s with
  | .dat (.tuple ds) => if decide (ds.length = n) = true then U (ds.map Sv.dat) ρ else M.fail
  | _ => M.fail
theorem pg_tp {ts : List Expr} {U : List Sv → Rho → M Rho} {k : Nat} (n : Nat) (hc : X.calm = true) (h : PGsX X E ts U) (hn : (assignEach ts X.env).length = n := by rfl) (hst : (assignEach ts X.env).findIdx? (·.1) = none := by rfl) : PGX X E (.Tuple ts k pos) (gTp n U) := by
  refine pg_weak (pg_tup hc h hn hst) fun v σ H Q ⟨W, ρ, μ, s, r, h, rs, e, q⟩ => ?_
  unfold gTp at e
  split at e
  · obtain ⟨c, e⟩ := iff_ok e
    cases rs with
    | tup h1 r1 => exact ⟨_, _, rfl, seqT_mono h.rel.sub h1, by rw [r1.len]; exact of_decide_eq_true c, W, ρ, μ, _, r, h, rel_dats r1, e, q⟩
  · cases e
/-- xs[i] = v, xs a tagged list -/
def gSt (Fa Fb : Rho → M Sv) (s : Sv) (ρ : Rho) : M Rho := (Fa ρ).bind fun o => (Fb ρ).bind fun i => (asI i).bind fun k => (tagOf o).bind fun z => (orFail (ixN z.2.length k)).bind fun j => (wrt z.1 (z.2.set j s)).bind fun _ => M.ret ρ
theorem pg_st {o i : Expr} (ho : PX X E o Fa) (hi : PX X E i Fb) (hP : PG X (.Subscript o i pos) (gSub (tX X.K E Fa) (tX X.K E Fb) rSetL)) : PGX X E (.Subscript o i pos) (gSt Fa Fb) := pg_weak hP fun v σ H Q ⟨W, ρ, μ, s, r, h, rs, e, q⟩ => by
  refine tX_bind h e q fun u o W1 H1 μ1 g1 h1 ro e1 q1 => tX_bind h1 e1 q1 fun w i W2 H2 μ2 g2 h2 ri e2 q2 => ?_
  obtain ⟨k, rfl, e2⟩ := asI_bind e2
  cases ri
  obtain ⟨t, xs, rfl, et, e2⟩ := tag_bind e2
  obtain ⟨_, rfl⟩ := ro.grow g2
  obtain ⟨j, ej, e2⟩ := orFail_some e2
  obtain ⟨vs, z1, z2⟩ := h2.rel.obj t _ et
  obtain ⟨R3, g3, e3⟩ := write_rel h2.rel et (z2.set ((rs.grow g1).grow g2) j) e2
  cases e3
  exact ⟨_, vs, k, j, rfl, rfl, z1, by rw [z2.len]; exact ej, q2 _ _ g3 R3 _ (h2.sl.grow g3)⟩
def gAsg (Fa : Rho → M Sv) (T : Sv → Rho → M Rho) (ρ : Rho) : M Out := (Fa ρ).bind fun s => (T s ρ).bind fun ρ' => M.ret (.nx ρ')
theorem asg_ent {K : PySem.W.Frag} {W : Wd} {σ : L2.St} {H : Hp} {ρ : Rho} {μ : Mu} {T : Sv → Rho → M Rho} {s : Sv} {v : V} {r : Res Out} {D : Ends} (h : Here K W σ H ρ μ) (rs : SvR K W μ.length v s) (e : M.bind (T s ρ) (fun ρ' => M.ret (.nx ρ')) μ = some r) (q : Ko K E W H μ r (OutOk K D)) :
    tP K E T v σ H D.nx := by
  rcases bind_some e with ⟨ρ', μ1, e1, e2⟩ | ⟨c, μ1, e1, rfl⟩
  · cases e2
    exact ⟨W, ρ, μ, s, _, h, rs, e1, fun W1 H1 g R => q W1 H1 g R⟩
  · exact ⟨W, ρ, μ, s, _, h, rs, e1, q⟩
theorem s_asg {tg : Expr} {T : Sv → Rho → M Rho} (ha : PX X E a Fa) (hg : PGX X E tg T) (hs : swapsWithSole [tg] a pos.line X.env = pure false := by rfl) (hw : swappedStores [tg] a X.env = pure none := by rfl) (h1 : (assignEach [tg] X.env).map (·.2) = [assign tg X.env] := by rfl) : PSX X E (.Assign [tg] a pos) (gAsg Fa T) :=
  ps_weak (ps_asg ha hg hs hw h1) fun D σ H ⟨W, ρ, μ, r, h, e, q⟩ => tX_bind h e q fun v s W1 H1 μ1 g1 h1 rs e1 q1 => asg_ent h1 rs e1 q1
def gSet (i : Nat) (Fa : Rho → M Sv) (ρ : Rho) : M Out := (Fa ρ).bind fun s => M.ret (.nx (ρ.set i (some s)))
theorem s_set (i : Nat) {x : Str} {pos' : Pos} (hN : X.N.Nodup) (ha : PX X E a Fa) (hi : X.N[i]? = some x := by rfl) (hx : Loc X.env.scope x := by first | exact Or.inl rfl | exact Or.inr rfl) (hs : swapsWith a (some (.Name x pos')) pos.line X.env = pure false := by rfl)
    (hf : X.fn x = true ∨ X.env.scope.names.lookup x = some .local := by first | exact .inl rfl | exact .inr rfl) : PSX X E (.Assign [.Name x pos'] a pos) (gSet i Fa) := ps_weak (ps_set hN hi hx ha hs hf) fun D σ H ⟨W, ρ, μ, r, h, e, q⟩ => by
  refine tX_bind h e q fun v s W1 H1 μ1 g1 h1 rs e1 q1 => ?_
  cases e1
  exact q1 _ _ (Grow.refl _ _ _) h1.rel _ (h1.sl.set i rs)
def gPar (i j : Nat) (Fs : Rho → M (List Sv)) (ρ : Rho) : M Out := (Fs ρ).bind fun ss => match ss with
  | [s, t] => M.ret (.nx ((ρ.set i (some s)).set j (some t)))
  | _ => M.fail
theorem s_par (i j : Nat) {x y : Str} {px py pt : Pos} {kt k2 pt2} {Fs : Rho → M (List Sv)} (hc : X.calm = true) (hN : X.N.Nodup) (ha : PAX X E [a, b] Fs) (hw : swappedStores [.Tuple [.Name x px, .Name y py] kt pt] (.Tuple [a, b] k2 pt2) X.env = pure (some [x, y]))
    (hi : X.N[i]? = some x := by rfl) (hj : X.N[j]? = some y := by rfl) (hij : i ≠ j := by decide) (hx : X.env.scope.names.lookup x = some .local := by rfl) (hy : X.env.scope.names.lookup y = some .local := by rfl)
    (hs : swapsWithSole [.Tuple [.Name x px, .Name y py] kt pt] (.Tuple [a, b] k2 pt2) pos.line X.env = pure false := by rfl) : PSX X E (.Assign [.Tuple [.Name x px, .Name y py] kt pt] (.Tuple [a, b] k2 pt2) pos) (gPar i j Fs) :=
  ps_weak (ps_par hc hN hi hj hij hx hy ha hw hs) fun D σ H ⟨W, ρ, μ, r, h, e, q⟩ => by
    refine tAr_bind h e q fun vs ss W1 H1 μ1 g1 h1 rs e1 q1 => ?_
    split at e1
    · cases e1
      obtain ⟨v, w, rfl, r1, r2⟩ := rels2 rs
      exact ⟨v, w, rfl, q1 _ _ (Grow.refl _ _ _) h1.rel _ ((h1.sl.set i r1).set j r2)⟩
    · cases e1
theorem rels3 {K : PySem.W.Frag} {W : Wd} {n : Nat} {xs : List V} {s t u : Sv} (h : SvRs K W n xs [s, t, u]) : ∃ x y z, xs = [x, y, z] ∧ SvR K W n x s ∧ SvR K W n y t ∧ SvR K W n z u := by
  cases h with
  | cons h r =>
    obtain ⟨y, z, rfl, h2, h3⟩ := rels2 r
    exact ⟨_, y, z, rfl, h, h2, h3⟩
def gPar3 (i j l : Nat) (Fs : Rho → M (List Sv)) (ρ : Rho) : M Out := (Fs ρ).bind fun ss => match ss with
  | [s, t, u] => M.ret (.nx (((ρ.set i (some s)).set j (some t)).set l (some u)))
  | _ => M.fail
theorem s_par3 (i j l : Nat) {x y z : Str} {px py pz pt : Pos} {kt k2 pt2} {Fs : Rho → M (List Sv)} (hc : X.calm = true) (hN : X.N.Nodup) (ha : PAX X E [a, b, c] Fs)
    (hw : swappedStores [.Tuple [.Name x px, .Name y py, .Name z pz] kt pt] (.Tuple [a, b, c] k2 pt2) X.env = pure (some [x, y, z]))
    (hi : X.N[i]? = some x := by rfl) (hj : X.N[j]? = some y := by rfl) (hl : X.N[l]? = some z := by rfl) (hij : i ≠ j := by decide) (hil : i ≠ l := by decide) (hjl : j ≠ l := by decide) (hx : X.env.scope.names.lookup x = some .local := by rfl) (hy : X.env.scope.names.lookup y = some .local := by rfl)
    (hz : X.env.scope.names.lookup z = some .local := by rfl) (hs : swapsWithSole [.Tuple [.Name x px, .Name y py, .Name z pz] kt pt] (.Tuple [a, b, c] k2 pt2) pos.line X.env = pure false := by rfl) :
    PSX X E (.Assign [.Tuple [.Name x px, .Name y py, .Name z pz] kt pt] (.Tuple [a, b, c] k2 pt2) pos) (gPar3 i j l Fs) :=
  ps_weak (ps_par3 hc hN hi hj hl hij hil hjl hx hy hz ha hw hs) fun D σ H ⟨W, ρ, μ, r, h, e, q⟩ => by
    refine tAr_bind h e q fun vs ss W1 H1 μ1 g1 h1 rs e1 q1 => ?_
    split at e1
    · cases e1
      obtain ⟨v, w, u, rfl, r1, r2, r3⟩ := rels3 rs
      exact ⟨v, w, u, rfl, q1 _ _ (Grow.refl _ _ _) h1.rel _ (((h1.sl.set i r1).set j r2).set l r3)⟩
    · cases e1
/-! ### what a for walks -/
structure Wk (K : PySem.W.Frag) (J : It) (W : Wd) (ds : List PyData) : Prop where
  go : ∀ (i : Nat) (d : PyData) (W1 : Wd) (H : Hp) (μ : Mu), Same W.S W1.S → Rel K W1 H μ → ds[i]? = some d → J.go i H
  yld : ∀ (i : Nat) (d : PyData) (W1 : Wd) (H : Hp) (μ : Mu) (x : V) (H' : Hp), Same W.S W1.S → Rel K W1 H μ → ds[i]? = some d → J.yld i H x H' → ∃ W2, Grow W1 H μ W2 H' μ ∧ Rel K W2 H' μ ∧ Dq K W2.S x d
  stop : ∀ (i : Nat) (W1 : Wd) (H : Hp) (μ : Mu), Same W.S W1.S → Rel K W1 H μ → ds.length ≤ i → J.stop i H
def tI (K : PySem.W.Frag) (E : XK) (F : Rho → M (List PyData)) : TI := fun σ H R => ∃ W ρ μ r, Here K W σ H ρ μ ∧ F ρ μ = some r ∧ Ko K E W H μ r fun W' H' ds μ' => ∀ J, Wk K J W' ds → R J H'
abbrev PIX (X : Cx) (E : XK) (tg : Expr) (e : Expr) (F : Rho → M (List PyData)) : Prop := PI X tg e (tI X.K E F)
theorem pi_weak {X : Cx} {tg e : Expr} {t t' : TI} (h : PI X tg e t) (w : ∀ σ H Q, t' σ H Q → t σ H Q) : PI X tg e t' := ⟨fun pins s σ H Q I q => h.run pins s σ H Q I (w _ _ _ q)⟩
theorem wk_list {K : PySem.W.Frag} {W : Wd} {a : Addr} {vs : List V} {ds : List PyData} (h : W.S a = some (.lst vs)) (r : Dqs K W.S vs ds) : Wk K (Itl K a) W ds where
  go := fun i d W1 H μ g R e => by
    obtain ⟨v, a1, _⟩ := r.getD e
    exact ⟨vs, v, SqL.of (R.sub _ _ (g _ _ h)), a1⟩
  yld := fun i d W1 H μ x H' g R e y => by
    obtain ⟨rfl, y2⟩ := y
    obtain ⟨v, a1, a2⟩ := r.getD e
    have z := y2 vs (SqL.of (R.sub _ _ (g _ _ h)))
    rw [a1] at z
    cases z
    exact ⟨W1, Grow.refl _ _ _, R, Dq.mono g a2⟩
  stop := fun i W1 H μ g R e => ⟨vs, SqL.of (R.sub _ _ (g _ _ h)), by rw [r.len]; exact e⟩
theorem wk_tup {K : PySem.W.Frag} {W : Wd} {a : Addr} {vs : List V} {ds : List PyData} (h : SqT K W.S a vs) (r : Dqs K W.S vs ds) : Wk K (Itt K a) W ds where
  go := fun i d W1 H μ g R e => by
    obtain ⟨v, a1, _⟩ := r.getD e
    exact ⟨vs, v, seqT_mono R.sub (seqT_mono g h), a1⟩
  yld := fun i d W1 H μ x H' g R e y => by
    obtain ⟨rfl, y2⟩ := y
    obtain ⟨v, a1, a2⟩ := r.getD e
    have z := y2 vs (seqT_mono R.sub (seqT_mono g h))
    rw [a1] at z
    cases z
    exact ⟨W1, Grow.refl _ _ _, R, Dq.mono g a2⟩
  stop := fun i W1 H μ g R e => ⟨vs, seqT_mono R.sub (seqT_mono g h), by rw [r.len]; exact e⟩
/-- a for over a list or a tuple of data -/
def seqOf (s : Sv) : M (List PyData) := match s with
  | .dat (.list ds) => M.ret ds
  | .dat (.tuple ds) => M.ret ds
  | _ => M.fail
def seqV (Fa : Rho → M Sv) (ρ : Rho) : M (List PyData) := (Fa ρ).bind seqOf
theorem i_seq {tg : Expr} (ha : PX X E a Fa) : PIX X E tg a (seqV Fa) := by
  refine ⟨fun pins s σ H R I ⟨W, ρ, μ, r, h, e, q⟩ => ?_⟩
  rcases bind_some e with ⟨x, μ1, e1, e2⟩ | ⟨c, μ1, e1, rfl⟩
  · have e2' := e2
    unfold seqOf at e2
    split at e2
    · refine (pi_list ha).run pins s σ H R I ⟨W, ρ, μ, _, h, e1, fun W1 H1 g R1 v rv => ?_⟩
      cases e2
      cases rv with
      | lst h1 r1 => exact ⟨_, rfl, ⟨_, SqL.of (R1.sub _ _ h1)⟩, q W1 H1 g R1 _ (wk_list h1 r1)⟩
    · refine (pi_tup ha).run pins s σ H R I ⟨W, ρ, μ, _, h, e1, fun W1 H1 g R1 v rv => ?_⟩
      cases e2
      cases rv with
      | tup h1 r1 => exact ⟨_, rfl, ⟨_, seqT_mono R1.sub h1⟩, q W1 H1 g R1 _ (wk_tup h1 r1)⟩
    · cases e2
  · exact (pi_list ha).run pins s σ H R I ⟨W, ρ, μ, _, h, e1, q⟩
def fromTo (lo : Int) (n : Nat) : List PyData := (List.range n).map fun k => .int (lo + (k : Nat))
theorem wk_range {K : PySem.W.Frag} {W : Wd} {lo : Int} {n : Nat} : Wk K (Itr lo n) W (fromTo lo n) where
  go := fun i d W1 H μ g R e => by
    have := (List.getElem?_eq_some_iff.mp e).1
    show i < n
    simpa [fromTo] using this
  yld := fun i d W1 H μ x H' g R e y => by
    obtain ⟨rfl, rfl⟩ := y
    have hi : i < n := by
      have := (List.getElem?_eq_some_iff.mp e).1
      simpa [fromTo] using this
    have : d = .int (lo + (i : Nat)) := by
      unfold fromTo at e
      rw [List.getElem?_map, List.getElem?_range hi] at e
      exact (Option.some.inj e).symm
    subst this
    exact ⟨W1, Grow.refl _ _ _, R, .int _⟩
  stop := fun i W1 H μ g R e => by
    show n ≤ i
    simpa [fromTo] using e
def big62 (i : Int) : Bool := decide (-(2 ^ 62) ≤ i) && decide (i < 2 ^ 62)
def rngV (Fa : Rho → M Sv) (ρ : Rho) : M (List PyData) := (Fa ρ).bind fun s => (asI s).bind fun i => if big62 i = true then M.ret (fromTo 0 i.toNat) else M.fail
theorem i_rng {tg : Expr} (hg : Gl X "range") (hm : X.mg "range" = none) (ha : PX X E a Fa) (hs : starEach [a] X.env = (false, eval a X.env) :: starEach [] X.env := by rfl) (hs2 : starEach [a] X.env = [(false, eval a X.env)] := by rfl) : PIX X E tg (.Call (.Name "range" p) [a] [] pos) (rngV Fa) :=
  pi_weak (pi_range1 hg hm (pa_cons ha pa_nil hs) hs2) fun σ H R ⟨W, ρ, μ, r, h, e, q⟩ => by
    refine tX_bind h e q fun v s W1 H1 μ1 g1 h1 rs e1 q1 => ?_
    obtain ⟨i, rfl, e1⟩ := asI_bind e1
    obtain ⟨c, e1⟩ := iff_ok e1
    obtain ⟨c1, c2⟩ := Bool.and_eq_true_iff.mp c
    cases rs
    cases e1
    exact ⟨i, rfl, of_decide_eq_true c1, of_decide_eq_true c2, q1 _ _ (Grow.refl _ _ _) h1.rel _ wk_range⟩
end
end Pf

namespace Pf
open PySem PySem.Spec PyProof.Rows L2

section
variable {X : Cx} {E : XK} {e a b c iter tg : Expr} {Fa Fb Fc : Rho → M Sv} {G G' B : Rho → M Out} {st : Stmt} {rest body : List Stmt} {pos p : Pos} {T : Sv → Rho → M Rho} {Fi : Rho → M (List PyData)}
/-! ### for -/
def loopG (T : Sv → Rho → M Rho) (B : Rho → M Out) : List PyData → Rho → M Out
  | [], ρ => M.ret (.nx ρ)
  | d :: ds, ρ => (T (.dat d) ρ).bind fun ρ1 => (B ρ1).bind fun o => match o with
    | .nx ρ2 => loopG T B ds ρ2
    | .ct ρ2 => loopG T B ds ρ2
    | .bk ρ2 => M.ret (.nx ρ2)
    | .rt s => M.ret (.rt s)
def gFor (Fi : Rho → M (List PyData)) (T : Sv → Rho → M Rho) (B : Rho → M Out) (ρ : Rho) : M Out := (Fi ρ).bind fun ds => loopG T B ds ρ
theorem s_for (hp : PassesOwn (model X.prog X.w) X.A X.env X.xe) (hc : X.calm = true) (hi : PIX X E tg iter Fi) (hg : PGX X E tg T) (hb : PSSX X E body B) (hs : ∀ x, foldedSetIterable iter X.env x = pure x := by intro _; rfl) :
    PSX X E (.For tg iter body [] pos) (gFor Fi T B) := ps_weak (ps_for hp hc hi hg hb hs) fun D σ H ⟨W0, ρ0, μ0, r, h0, e0, q0⟩ => by
  rcases bind_some e0 with ⟨ds, μ1, e1, e2⟩ | ⟨c, μ1, e1, rfl⟩
  · refine ⟨W0, ρ0, μ0, _, h0, e1, fun W1 H1 g1 R1 J wk => ?_⟩
    have q1 := q0.later g1
    refine ⟨fun i m σ H => m = ds.length - i ∧ i ≤ ds.length ∧ ∃ W ρ μ, Here X.K W σ H ρ μ ∧ Same W1.S W.S ∧ loopG T B (ds.drop i) ρ μ = some r ∧ Ko X.K E W H μ r (OutOk X.K D),
      ⟨ds.length, rfl, Nat.zero_le _, W1, ρ0, μ1, h0.next g1 R1, Same.refl _, e2, q1⟩, ?_⟩
    rintro i m σ H ⟨rfl, hi, W, ρ, μ, h, sm, e, q⟩
    by_cases hlt : i < ds.length
    · have hd : ds[i]? = some ds[i] := List.getElem?_eq_getElem hlt
      rw [List.drop_eq_getElem_cons hlt] at e
      refine .inr ⟨wk.go i _ W H μ sm h.rel hd, fun σ' H' => ∃ W ρ μ, Here X.K W σ' H' ρ μ ∧ Same W1.S W.S ∧ loopG T B (ds.drop (i + 1)) ρ μ = some r ∧ Ko X.K E W H' μ r (OutOk X.K D),
        fun σ' H' hN => ⟨ds.length - (i + 1), by omega, rfl, hlt, hN⟩, fun x H' hy => ?_⟩
      obtain ⟨W2, g2, R2, hx⟩ := wk.yld i _ W H μ x H' sm h.rel hd hy
      have h2 : Here X.K W2 σ H' ρ μ := h.next g2 R2
      have q2 := q.later g2
      have sm2 : Same W1.S W2.S := sm.trans g2.same
      have e' : M.bind (T (.dat ds[i]) ρ) (fun ρ1 => (B ρ1).bind fun o => match o with
        | .nx ρ2 => loopG T B (ds.drop (i + 1)) ρ2
        | .ct ρ2 => loopG T B (ds.drop (i + 1)) ρ2
        | .bk ρ2 => M.ret (.nx ρ2)
        | .rt s => M.ret (.rt s)) μ = some r := e
      rcases bind_some e' with ⟨ρ1, μ3, e3, e4⟩ | ⟨c, μ3, e3, rfl⟩
      · refine ⟨W2, ρ, μ, .dat ds[i], _, h2, hx, e3, fun W3 H3 g3 R3 σ3 s3 => ?_⟩
        refine tG_bind ⟨R3, s3⟩ e4 (q2.later g3) fun o W4 H4 μ4 g4 R4 e5 q5 => ?_
        have sm4 : Same W1.S W4.S := (sm2.trans g3.same).trans g4.same
        cases o with
        | nx ρ4 => exact fun σ4 s4 => ⟨W4, ρ4, μ4, ⟨R4, s4⟩, sm4, e5, q5⟩
        | ct ρ4 => exact fun σ4 s4 => ⟨W4, ρ4, μ4, ⟨R4, s4⟩, sm4, e5, q5⟩
        | bk ρ4 =>
          cases e5
          exact q5 _ _ (Grow.refl _ _ _) R4
        | rt s =>
          cases e5
          exact q5 _ _ (Grow.refl _ _ _) R4
      · exact ⟨W2, ρ, μ, .dat ds[i], _, h2, hx, e3, q2⟩
    · refine .inl ⟨wk.stop i W H μ sm h.rel (by omega), ?_⟩
      rw [List.drop_eq_nil_of_le (by omega)] at e
      cases e
      exact q _ _ (Grow.refl _ _ _) h.rel _ h.sl
  · exact ⟨W0, ρ0, μ0, _, h0, e1, q0⟩

/-! ### while, by a bound on its turns -/
/-! ### comprehensions -/
/-- only these slots are written -/
def tPw (K : PySem.W.Frag) (E : XK) (vs : List Nat) (T : Sv → Rho → M Rho) : TG := fun v σ H Q => ∃ W ρ μ s r, Here K W σ H ρ μ ∧ SvR K W μ.length v s ∧ T s ρ μ = some r ∧ Ko K E W H μ r fun W' H' ρ' μ' => ∀ σ', Sls K W' μ'.length σ' ρ' → wipe σ' vs = wipe σ vs → Q σ' H'
def tPws (K : PySem.W.Frag) (E : XK) (vs : List Nat) (T : List Sv → Rho → M Rho) : TGs := fun v σ H Q => ∃ W ρ μ s r, Here K W σ H ρ μ ∧ SvRs K W μ.length v s ∧ T s ρ μ = some r ∧ Ko K E W H μ r fun W' H' ρ' μ' => ∀ σ', Sls K W' μ'.length σ' ρ' → wipe σ' vs = wipe σ vs → Q σ' H'
abbrev PGW (X : Cx) (E : XK) (vs : List Nat) (tg : Expr) (T : Sv → Rho → M Rho) : Prop := PG X tg (tPw X.K E vs T)
abbrev PGsW (X : Cx) (E : XK) (vs : List Nat) (tg : List Expr) (T : List Sv → Rho → M Rho) : Prop := PGs X tg (tPws X.K E vs T)
theorem wipe_out {σ : L2.St} {v : Option V} : ∀ {vs : List Nat} {i : Nat}, i ∈ vs → wipe (σ.set i v) vs = wipe σ vs
  | [], _, h => absurd h List.not_mem_nil
  | k :: vs, i, h => by
    show (wipe (σ.set i v) vs).set k none = (wipe σ vs).set k none
    by_cases hk : i ∈ vs
    · rw [wipe_out hk]
    · have hik : i = k := by
        rcases List.mem_cons.mp h with z | z
        · exact z
        · exact absurd z hk
      subst hik
      have comm : ∀ (ws : List Nat) (σ : L2.St), i ∉ ws → wipe (σ.set i v) ws = (wipe σ ws).set i v := fun ws => by
        induction ws with
        | nil => exact fun _ _ => rfl
        | cons w ws ih =>
          intro σ hw
          show (wipe (σ.set i v) ws).set w none = ((wipe σ ws).set w none).set i v
          rw [ih σ fun z => hw (List.mem_cons_of_mem _ z), List.set_comm _ _ fun z => hw (by rw [z]; exact List.mem_cons_self)]
      rw [comm vs σ hk, List.set_set]
theorem pw_nm (i : Nat) {vs : List Nat} {x : Str} (hN : X.N.Nodup) (hm : i ∈ vs) (hi : X.N[i]? = some x := by rfl) (hx : Loc X.env.scope x := by first | exact Or.inl rfl | exact Or.inr rfl) (hf : X.fn x = true ∨ X.env.scope.names.lookup x = some .local := by first | exact .inl rfl | exact .inr rfl) : PGW X E vs (.Name x pos) (gNm i) :=
  pg_weak (pg_name hN hi hx hf) fun v σ H Q ⟨W, ρ, μ, s, r, h, rs, e, q⟩ => by
    cases e
    exact q _ _ (Grow.refl _ _ _) h.rel _ (h.sl.set i rs) (wipe_out hm)
theorem pws_0 {vs : List Nat} : PGsW X E vs [] gsNil := pgs_weak pgs_nil fun v σ H Q ⟨W, ρ, μ, s, r, h, rs, e, q⟩ => by
  unfold gsNil at e
  split at e
  · cases e
    cases rs
    exact ⟨rfl, q _ _ (Grow.refl _ _ _) h.rel _ h.sl rfl⟩
  · cases e
theorem pws_c {vs : List Nat} {t : Expr} {ts : List Expr} {T : Sv → Rho → M Rho} {U : List Sv → Rho → M Rho} (h1 : PGW X E vs t T) (h2 : PGsW X E vs ts U) (hs : (assignEach (t :: ts) X.env).map (·.2) = assign t X.env :: (assignEach ts X.env).map (·.2) := by rfl) : PGsW X E vs (t :: ts) (gsCons T U) := pgs_weak (pgs_cons h1 h2 hs) fun v σ H Q ⟨W, ρ, μ, s, r, h, rs, e, q⟩ => by
  unfold gsCons at e
  split at e
  · cases rs with
    | cons r1 r2 =>
      refine ⟨_, _, rfl, ?_⟩
      rcases bind_some e with ⟨ρ', μ1, e1, e2⟩ | ⟨c, μ1, e1, rfl⟩
      · refine ⟨W, ρ, μ, _, _, h, r1, e1, fun W1 H1 g R σ1 s1 w1 => ⟨W1, ρ', μ1, _, r, ⟨R, s1⟩, SvRs.grow g r2, e2, ?_⟩⟩
        have q' := q.later g
        cases r with
        | ok ρ2 μ2 => exact fun W2 H2 g2 R2 σ2 s2 w2 => q' W2 H2 g2 R2 σ2 s2 (w2.trans w1)
        | ex c μ2 => exact q'
      · exact ⟨W, ρ, μ, _, _, h, r1, e1, q⟩
  · cases e
theorem pw_tp {vs : List Nat} {ts : List Expr} {U : List Sv → Rho → M Rho} {k : Nat} (n : Nat) (hc : X.calm = true) (h : PGsW X E vs ts U) (hn : (assignEach ts X.env).length = n := by rfl) (hst : (assignEach ts X.env).findIdx? (·.1) = none := by rfl) : PGW X E vs (.Tuple ts k pos) (gTp n U) := by
  refine pg_weak (pg_tup hc h hn hst) fun v σ H Q ⟨W, ρ, μ, s, r, h, rs, e, q⟩ => ?_
  unfold gTp at e
  split at e
  · obtain ⟨c, e⟩ := iff_ok e
    cases rs with
    | tup h1 r1 => exact ⟨_, _, rfl, seqT_mono h.rel.sub h1, by rw [r1.len]; exact of_decide_eq_true c, W, ρ, μ, _, r, h, rel_dats r1, e, q⟩
  · cases e
abbrev PTsX (X : Cx) (E : XK) (es : List Expr) (F : Rho → M Bool) : Prop := PTs X es (tT X.K E F)
theorem pts_weak {X : Cx} {e : List Expr} {t t' : TT} (h : PTs X e t) (w : ∀ σ H Q, t' σ H Q → t σ H Q) : PTs X e t' := ⟨fun pins s σ H Q I q => h.run pins s σ H Q I (w _ _ _ q)⟩
def yes (_ : Rho) : M Bool := M.ret true
theorem ts_nil : PTsX X E [] yes := pts_weak pts_nil fun σ H Q ⟨W, ρ, μ, r, h, e, q⟩ => by
  cases e
  exact q _ _ (Grow.refl _ _ _) h.rel
def wipeR (ρ : Rho) : List Nat → Rho
  | [] => ρ
  | v :: vs => (wipeR ρ vs).set v none
theorem wipe_sl {K : PySem.W.Frag} {W : Wd} {n : Nat} {σ : L2.St} {ρ : Rho} (h : Sls K W n σ ρ) : ∀ vs : List Nat, Sls K W n (wipe σ vs) (wipeR ρ vs)
  | [] => h
  | v :: vs => by
    have ih := wipe_sl h vs
    refine ⟨fun i x e => ?_, ?_⟩
    · have e' : ((wipeR ρ vs).set v none)[i]? = some (some x) := e
      by_cases hv : v = i
      · subst hv
        have hl : v < (wipeR ρ vs).length := by
          have := (List.getElem?_eq_some_iff.mp e').1
          simpa using this
        rw [List.getElem?_set_self hl] at e'
        cases e'
      · rw [List.getElem?_set_ne hv] at e'
        obtain ⟨u, a1, a2⟩ := ih.at_ i x e'
        exact ⟨u, by show ((wipe σ vs).set v none)[i]? = _; rw [List.getElem?_set_ne hv]; exact a1, a2⟩
    · show ((wipe σ vs).set v none).length = ((wipeR ρ vs).set v none).length
      rw [List.length_set, List.length_set, ih.len]
def noEx {α : Type} (m : M α) : M α := fun μ => match m μ with
  | some (.ok a μ') => some (.ok a μ')
  | _ => none
theorem noEx_bind {α β : Type} {m : M α} {k : α → M β} {μ : Mu} {r : Res β} (h : M.bind (noEx m) k μ = some r) : ∃ a μ1, m μ = some (.ok a μ1) ∧ k a μ1 = some r := by
  unfold M.bind noEx at h
  cases e : m μ with
  | none =>
    rw [e] at h
    cases h
  | some x =>
    rw [e] at h
    cases x with
    | ok a μ1 => exact ⟨a, μ1, rfl, h⟩
    | ex c μ1 => cases h
def lcL (T : Sv → Rho → M Rho) (C : Rho → M Bool) (Fe : Rho → M Sv) : List PyData → Rho → M (List Sv)
  | [], _ => M.ret []
  | d :: ds, ρ => (noEx (T (.dat d) ρ)).bind fun ρ1 => (noEx (C ρ1)).bind fun k => if k = true then (noEx (Fe ρ1)).bind fun s => (lcL T C Fe ds ρ).bind fun r => M.ret (s :: r) else lcL T C Fe ds ρ
def lcV (m : Bool) (vs : List Nat) (Fi : Rho → M (List PyData)) (T : Sv → Rho → M Rho) (C : Rho → M Bool) (Fe : Rho → M Sv) (ρ : Rho) : M Sv :=
  (Fi ρ).bind fun ds => if szOk ds.length = true then (lcL T C Fe ds (wipeR ρ vs)).bind fun ss => mkl m ss else M.fail
theorem lcL_noex {T : Sv → Rho → M Rho} {C : Rho → M Bool} {Fe : Rho → M Sv} : ∀ {ds : List PyData} {ρ : Rho} {μ μ' : Mu} {c : Exc}, lcL T C Fe ds ρ μ = some (.ex c μ') → False
  | [], _, _, _, _, e => nomatch e
  | d :: ds, ρ, μ, μ', c, e => by
    obtain ⟨ρ1, μ1, _, e⟩ := noEx_bind e
    obtain ⟨k, μ2, _, e⟩ := noEx_bind e
    cases k with
    | false =>
      rw [if_neg Bool.false_ne_true] at e
      exact lcL_noex e
    | true =>
      rw [if_pos rfl] at e
      obtain ⟨s, μ3, _, e⟩ := noEx_bind e
      rcases bind_some e with ⟨r, μ4, e1, e2⟩ | ⟨c, μ4, e1, e2⟩
      · cases e2
      · exact lcL_noex e1
theorem wipe_get {σ : L2.St} : ∀ {vs : List Nat} {i : Nat}, (wipe σ vs)[i]? = if i < σ.length then (if i ∈ vs then some none else σ[i]?) else none
  | [], i => by
    by_cases h : i < σ.length
    · rw [if_pos h, if_neg List.not_mem_nil]
      rfl
    · rw [if_neg h]
      exact List.getElem?_eq_none (show σ.length ≤ i by omega)
  | v :: vs, i => by
    show ((wipe σ vs).set v none)[i]? = _
    by_cases hv : v = i
    · subst hv
      by_cases h : v < σ.length
      · rw [if_pos h, if_pos List.mem_cons_self, List.getElem?_set_self (by rw [wipe_length]; exact h)]
      · rw [if_neg h]
        exact List.getElem?_eq_none (by rw [List.length_set, wipe_length]; omega)
    · rw [List.getElem?_set_ne hv, wipe_get]
      by_cases h : i < σ.length
      · rw [if_pos h, if_pos h]
        by_cases hm : i ∈ vs
        · rw [if_pos hm, if_pos (List.mem_cons_of_mem _ hm)]
        · rw [if_neg hm, if_neg fun z => by
            rcases List.mem_cons.mp z with z | z
            · exact hv z.symm
            · exact hm z]
      · rw [if_neg h, if_neg h]
theorem wipe_wipe {σ : L2.St} (vs : List Nat) : wipe (wipe σ vs) vs = wipe σ vs := by
  apply List.ext_getElem?
  intro i
  rw [wipe_get, wipe_length, wipe_get]
  by_cases h : i < σ.length
  · rw [if_pos h, if_pos h]
    by_cases hm : i ∈ vs
    · rw [if_pos hm, if_pos hm]
    · rw [if_neg hm, if_neg hm]
  · rw [if_neg h, if_neg h]
/-- what is asked of a comprehension, from the pure reading -/
theorem lc_ent {K : PySem.W.Frag} {m : Bool} {vs : List Nat} {C : Rho → M Bool} {Fe : Rho → M Sv} {σ : L2.St} {H : Hp} {Q : VK} (h : tX K E (lcV m vs Fi T C Fe) σ H Q) : tLc (tI K E Fi) (tPw K E0 vs T) (tT K E0 C) (tX K E0 Fe) vs σ H Q := by
  obtain ⟨W0, ρ0, μ0, r, h0, e0, q0⟩ := h
  rcases bind_some e0 with ⟨ds, μ1, e1, e2⟩ | ⟨c, μ1, e1, rfl⟩
  · refine ⟨W0, ρ0, μ0, _, h0, e1, fun W1 H1 g1 R1 J wk D hD => ?_⟩
    have q1 : KoV K E W1 H1 μ1 r Q := q0.later g1
    obtain ⟨csz, e2⟩ := iff_ok e2
    have hsz : ds.length < sizeLine := szOk_lt csz
    have s1 : Sls K W1 μ1.length (wipe σ vs) (wipeR ρ0 vs) := wipe_sl (h0.sl.grow g1) vs
    refine ⟨fun i n H => n = ds.length - i ∧ i ≤ ds.length ∧ ∃ W μ acc us, Rel K W H μ ∧ Grow W1 H1 μ1 W H μ ∧ Loose W μ D ∧ H D = some (.lst us) ∧ SvRs K W μ.length us acc ∧ acc.length ≤ i ∧
        M.bind (lcL T C Fe (ds.drop i) (wipeR ρ0 vs)) (fun ss => mkl m (acc ++ ss)) μ = some r,
      ⟨ds.length, rfl, Nat.zero_le _, W1, μ1, [], [], R1.lay hD, (Grow.refl _ _ _).out hD fun a ha => upd_ne ha, R1.fresh hD, upd_same, .nil, Nat.le_refl _, e2⟩, ?_⟩
    rintro i n H ⟨rfl, hi, W, μ, acc, us, R, gr, hT, hH, ra, hac, e⟩
    by_cases hlt : i < ds.length
    · have hd : ds[i]? = some ds[i] := List.getElem?_eq_getElem hlt
      rw [List.drop_eq_getElem_cons hlt] at e
      refine .inr ⟨wk.go i _ W H μ gr.same R hd, fun H' => ∃ W μ acc us, Rel K W H' μ ∧ Grow W1 H1 μ1 W H' μ ∧ Loose W μ D ∧ H' D = some (.lst us) ∧ SvRs K W μ.length us acc ∧ acc.length ≤ i + 1 ∧
        M.bind (lcL T C Fe (ds.drop (i + 1)) (wipeR ρ0 vs)) (fun ss => mkl m (acc ++ ss)) μ = some r, fun H' hN => ⟨ds.length - (i + 1), by omega, rfl, hlt, hN⟩, fun x H' hy => ?_⟩
      obtain ⟨W2, g2, R2, hx⟩ := wk.yld i _ W H μ x H' gr.same R hd hy
      obtain ⟨hH2, hT2⟩ := g2.frm D _ hH (fun _ z => by cases z) hT
      rcases bind_some e with ⟨ss, μ9, e3, e4⟩ | ⟨c, μ9, e3, rfl⟩
      · obtain ⟨ρ1, μ3, e5, e3⟩ := noEx_bind e3
        have gg2 := gr.trans g2
        refine ⟨W2, wipeR ρ0 vs, μ, .dat ds[i], _, ⟨R2, s1.grow gg2⟩, hx, e5, fun W3 H3 g3 R3 σ3 s3 w3 => ⟨w3.trans (wipe_wipe vs), ?_⟩⟩
        obtain ⟨hH3, hT3⟩ := g3.frm D _ hH2 (fun _ z => by cases z) hT2
        obtain ⟨k, μ4, e6, e3⟩ := noEx_bind e3
        refine ⟨W3, ρ1, μ3, _, ⟨R3, s3⟩, e6, fun W4 H4 g4 R4 => ?_⟩
        obtain ⟨hH4, hT4⟩ := g4.frm D _ hH3 (fun _ z => by cases z) hT3
        have gg4 := (gg2.trans g3).trans g4
        cases k with
        | false =>
          rw [if_neg Bool.false_ne_true] at e3 ⊢
          refine ⟨W4, μ4, acc, us, R4, gg4, hT4, hH4, ra.grow ((g2.trans g3).trans g4), Nat.le_succ_of_le hac, ?_⟩
          rw [bind_ok e3]
          exact e4
        | true =>
          rw [if_pos rfl] at e3 ⊢
          obtain ⟨s, μ5, e7, e3⟩ := noEx_bind e3
          refine ⟨W4, ρ1, μ4, _, ⟨R4, s3.grow g4⟩, e7, fun W5 H5 g5 R5 y ry => ?_⟩
          obtain ⟨hH5, hT5⟩ := g5.frm D _ hH4 (fun _ z => by cases z) hT4
          have gg5 := gg4.trans g5
          rcases bind_some e3 with ⟨r5, μ6, e8, e9⟩ | ⟨c, μ6, e8, e9⟩
          · cases e9
            refine ⟨us, hH5, ?_, ?_⟩
            · rw [ra.len]
              omega
            · refine ⟨W5, μ5, acc ++ [s], us ++ [y], R5.loose hH5 hT5, gg5.out hD fun a ha => upd_ne ha, hT5, upd_same, (ra.grow (((g2.trans g3).trans g4).trans g5)).append (.cons ry .nil), ?_, ?_⟩
              · rw [List.length_append]
                exact Nat.succ_le_succ hac
              · rw [bind_ok e8, List.append_assoc]
                exact e4
          · cases e9
      · exact absurd e3 lcL_noex
    · refine .inl ⟨wk.stop i W H μ gr.same R (by omega), ?_⟩
      rw [List.drop_eq_nil_of_le (by omega)] at e
      have e' : mkl m (acc ++ []) μ = some r := e
      rw [List.append_nil] at e'
      have R0 : Rel K W (hideA H D) μ := R.hide hH hT
      have g0 : Grow W1 H1 μ1 W (hideA H D) μ := gr.out hD fun a ha => hide_ne ha
      have z := mkl_ok R0 hide_self ra e' (q1.later g0)
      rw [hide_upd hH] at z
      exact z
  · exact ⟨W0, ρ0, μ0, _, h0, e1, q0⟩
/-- [elt for tg in iter if ..] -/
theorem x_lc (m : Bool) {elt : Expr} {ifs : List Expr} {scope : Scope} {own : List (Str × Nat)} {C : Rho → M Bool} {Fe : Rho → M Sv} (hc : X.calm = true) (hN : X.N.Nodup) (hi : PIX X E tg iter Fi) (ok : BlkOk X.N X.env.scope scope own)
    (hg : ∀ (s : Shared) (H : Hp) (D : Addr) (cl : List (Str × Addr)) (fp : List Addr), PGW (X.blk s H scope (compEnvC scope cl D X.env) fp) E0 (own.map (·.2)) tg T)
    (ht : ∀ (s : Shared) (H : Hp) (D : Addr) (cl : List (Str × Addr)) (fp : List Addr), PTsX (X.blk s H scope (compEnvC scope cl D X.env) fp) E0 ifs C)
    (he : ∀ (s : Shared) (H : Hp) (D : Addr) (cl : List (Str × Addr)) (fp : List Addr), PX (X.blk s H scope (compEnvC scope cl D X.env) fp) E0 elt Fe) (hs : ∀ x, foldedSetIterable iter X.env x = pure x := by intro _; rfl) :
    PX X E (.ListComp elt [⟨tg, iter, ifs, 0⟩] scope pos) (lcV m (own.map (·.2)) Fi T C Fe) := pe_weak (pe_lc hc hN hi ok hg ht he hs) fun _ _ _ h => lc_ent h
theorem s_setLc (i : Nat) (m : Bool) {y : Str} {py spos : Pos} {elt : Expr} {ifs : List Expr} {scope : Scope} {own : List (Str × Nat)} {C : Rho → M Bool} {Fe : Rho → M Sv} (hc : X.calm = true) (hN : X.N.Nodup) (hsw : swapsWith (.ListComp elt [⟨tg, iter, ifs, 0⟩] scope pos) (some (.Name y py)) spos.line X.env = pure true)
    (hi : PIX X E tg iter Fi) (ok : BlkOk X.N X.env.scope scope own)
    (hg : ∀ (s : Shared) (H : Hp) (D : Addr) (cl : List (Str × Addr)) (fp : List Addr), PGW (X.blk s H scope (compEnvC scope cl D X.env) fp) E0 (own.map (·.2)) tg T)
    (ht : ∀ (s : Shared) (H : Hp) (D : Addr) (cl : List (Str × Addr)) (fp : List Addr), PTsX (X.blk s H scope (compEnvC scope cl D X.env) fp) E0 ifs C)
    (he : ∀ (s : Shared) (H : Hp) (D : Addr) (cl : List (Str × Addr)) (fp : List Addr), PX (X.blk s H scope (compEnvC scope cl D X.env) fp) E0 elt Fe) (hy : X.N[i]? = some y := by rfl) (hyl : X.env.scope.names.lookup y = some .local := by rfl) (hs : ∀ x, foldedSetIterable iter X.env x = pure x := by intro _; rfl) :
    PSX X E (.Assign [.Name y py] (.ListComp elt [⟨tg, iter, ifs, 0⟩] scope pos) spos) (gSet i (lcV m (own.map (·.2)) Fi T C Fe)) :=
  ps_weak (ps_setLc hc hN hy hyl hsw hi ok hg ht he hs) fun D σ H ⟨W, ρ, μ, r, h, e, q⟩ => by
    refine lc_ent (tX_bind h e q fun v s W1 H1 μ1 g1 h1 rs e1 q1 => ?_)
    cases e1
    exact q1 _ _ (Grow.refl _ _ _) h1.rel _ (h1.sl.set i rs)
end
end Pf

namespace Pf
open PySem PySem.Spec PyProof.Rows L2

/-! ### defs, where no repr is under way -/
structure Gk (P : Program) (w : World) (K : PySem.W.Frag) (mg : Str → Option Value) (base : Heap) (CX : CXT) (k : Nat) (f : Addr) (fd : FuncData) (ps : List Str) (sp : Sp) : Prop where
  glen : ∀ vs H Q E, sp vs H Q E → vs.length = ps.length
  grun : ∀ (A : Around) (below : List Env) (s : Shared) (H : Hp) (ar : Args) (us : List Value) (vs : List V) (Q : VK) (E : XK), A.guards = some [] → Room k A → Env0 P w K mg base A below s H → BindsTo s fd ar (ps.zip us) → Vals vs us → sp vs H Q E →
    codeAny (model P w) A (.call (.ref f) ar) (CR CX below P w H s Q E) s
theorem Gk.of {P : Program} {w : World} {K : PySem.W.Frag} {mg : Str → Option Value} {base : Heap} {CX : CXT} {k : Nat} {f : Addr} {fd : FuncData} {ps : List Str} {sp : Sp} (F : FnOk P w K mg base CX k f fd ps sp) : Gk P w K mg base CX k f fd ps sp :=
  ⟨F.len, fun A o s H a us vs Q E _ hr e b r q => F.run A o s H a us vs Q E hr e b r q⟩
theorem Gk.up {P : Program} {w : World} {K : PySem.W.Frag} {mg : Str → Option Value} {base : Heap} {CX : CXT} {k j : Nat} {f : Addr} {fd : FuncData} {ps : List Str} {sp : Sp} (F : Gk P w K mg base CX j f fd ps sp) (h : j ≤ k) : Gk P w K mg base CX k f fd ps sp :=
  ⟨F.glen, fun A o s H a us vs Q E hg hr => F.grun A o s H a us vs Q E hg (hr.mono h)⟩
section
variable {X : Cx} {CX : CXT} {k : Nat} {f : Addr} {fd : FuncData} {ps : List Str} {sp : Sp} {dvs : List V} {ds : List Value} {E : XK} {x : Str} {p pos : Pos} {e : Expr} {es : List Expr}
theorem g_run {pins : List (Addr × Obj)} {σ : L2.St} {H : Hp} {s : Shared} {Q : VK} {us : List Value} {vs : List V} (F : Gk X.prog X.w X.K X.mg X.base CX k f fd ps sp) (hgd : X.A.guards = some []) (hr : Room k X.A) (hb : Binds X.K fd ps ds) (hd : Vals dvs ds) (hx : Passes CX X E)
    (I : Inv X pins σ H s) (r : Vals vs us) (h : sp (vs ++ dvs) H Q E) : wpAny (model X.prog X.w) X.A (call (.ref f) us) (EP X pins σ Q) X.xe s := by
  have rr : Vals (vs ++ dvs) (us ++ ds) := Vals.append r hd
  have ln : (us ++ ds).length = ps.length := (Vals.length rr).symm.trans (F.glen _ _ _ _ h)
  have gr := F.grun X.A X.stack s H ⟨us, []⟩ (us ++ ds) (vs ++ dvs) Q E hgd hr (Inv.env0 I) (hb s us I.kIn ln) rr h
  refine wpAny_call (codeAny_mono gr fun res s1 hc => ?_)
  match res, hc with
  | .error ex, hc => exact hx pins σ H s ex s1 I hc
  | .ok (.ret u), hc => exact Inv.after I hc
/-! ### the promise of a pure reading -/
def spM (K : PySem.W.Frag) (n : Nat) (Fm : List Sv → M Sv) : Sp := fun vs H Q E => vs.length = n ∧ ∃ W μ ss r, Rel K W H μ ∧ SvRs K W μ.length vs ss ∧ Fm ss μ = some r ∧ KoV K E W H μ r Q
theorem x_call {n : Nat} {Fm : List Sv → M Sv} {dd : List PyData} {Fs : Rho → M (List Sv)} (F : Gk X.prog X.w X.K X.mg X.base CX k f fd ps (spM X.K n Fm)) (hgd : X.A.guards = some []) (hr : Room k X.A) (hm : X.mg x = some (.ref f)) (hk : PySem.W.keepIn X.K (.ref f) = true) (hb : Binds X.K fd ps ds) (hd : Vals dvs ds)
    (hdd : ∀ S, Dqs X.K S dvs dd) (hx : Passes CX X E) (ha : PAX X E (e :: es) Fs) (hg : Gl X x := by rfl)
    (hdb : (x == ("__debug__" : Str)) = false := by decide) (he : starEach (e :: es) X.env = (false, eval e X.env) :: starEach es X.env := by rfl) (hpl : (backTo pos (starEach es X.env)).any (·.1) = false := by rfl) :
    PX X E (.Call (.Name x p) (e :: es) [] pos) (fun ρ => (Fs ρ).bind fun ss => if decide (ss.length + dd.length = n) = true then Fm (ss ++ dd.map Sv.dat) else M.fail) := by
  refine ⟨fun pins s σ H Q I ⟨W, ρ, μ, r, h, e, q⟩ => ?_⟩
  refine wpAny_Call_Name_kw (ld_glob I hg hm ?_ hdb)
  refine PySem.W.callWith_K (h₀ := X.base) I.ok.mod.kin hk ?_ he hpl
  have want : tAr X.K E Fs σ H fun vs H1 => spM X.K n Fm (vs ++ dvs) H1 Q E := tAr_bind h e q fun vs ss W1 H1 μ1 g1 h1 rs e1 q1 => by
    obtain ⟨c, e1⟩ := iff_ok e1
    have rd : SvRs X.K W1 μ1.length dvs (dd.map Sv.dat) := rel_dats (hdd _)
    refine ⟨?_, W1, μ1, _, r, h1.rel, rs.append rd, e1, q1⟩
    have l1 := rs.len
    have l2 := rd.len
    rw [List.length_map] at l2
    have c' := of_decide_eq_true c
    rw [List.length_append]
    omega
  exact thn (ha.run pos pins s σ H _ I want) fun us s1 hz => by
    obtain ⟨vs, H1, J, rv, z⟩ := hz
    exact ⟨J.kIn, g_run F hgd hr hb hd hx J rv z⟩
end

/-! ### a def by its body -/
/-- what a body leaves behind the objects that the caller knows -/
def Wf (μ : Mu) : Prop := ∀ (i : Nat) (xs : List Sv), μ[i]? = some (.lst xs) → ∀ t, Sv.ref t ∈ xs → t < μ.length
def fits (n : Nat) : Sv → Prop
  | .ref t => t < n
  | _ => True
def Agree (n : Nat) (r : Res Sv) (r' : Res Out) : Prop := match r, r' with
  | .ok s μ1, .ok (.rt s') μ2 => s = s' ∧ (∃ g, μ2 = μ1 ++ g) ∧ Wf μ1 ∧ n ≤ μ1.length ∧ fits μ1.length s
  | .ok s μ1, .ok (.nx _) μ2 => s = .dat .none ∧ (∃ g, μ2 = μ1 ++ g) ∧ Wf μ1 ∧ n ≤ μ1.length
  | .ex c μ1, .ex c' μ2 => c = c' ∧ (∃ g, μ2 = μ1 ++ g) ∧ Wf μ1 ∧ n ≤ μ1.length ∧ ∀ f s, c.fld = some (f, s) → fits μ1.length s
  | _, _ => False
section
variable {K : PySem.W.Frag} {W W' : Wd} {H H' : Hp} {μ μ1 g : Mu}
theorem rels_mem {n : Nat} {t : Nat} : ∀ {vs : List V} {xs : List Sv}, SvRs K W n vs xs → Sv.ref t ∈ xs → t < n
  | _, _, .nil, h => absurd h List.not_mem_nil
  | _, x :: _, .cons a r, h => by
    rcases List.mem_cons.mp h with z | z
    · rw [← z] at a
      exact a.1
    · exact rels_mem r z
theorem Rel.wf (R : Rel K W H μ) : Wf μ := fun i xs e t ht => by
  obtain ⟨vs, _, r⟩ := R.obj i _ e
  exact rels_mem r ht
theorem sv_cut {n m : Nat} : ∀ {v : V} {s : Sv}, SvR K W n v s → fits m s → SvR K W m v s
  | _, .dat _, h, _ => h
  | _, .ref _, h, z => ⟨z, h.2⟩
  | _, .scr _, h, _ => h
theorem svs_cut {n m : Nat} : ∀ {vs : List V} {xs : List Sv}, SvRs K W n vs xs → (∀ x ∈ xs, fits m x) → SvRs K W m vs xs
  | _, _, .nil, _ => .nil
  | _, _, .cons a r, h => .cons (sv_cut a (h _ List.mem_cons_self)) (svs_cut r fun x hx => h x (List.mem_cons_of_mem _ hx))
theorem pre_get {i : Nat} {o : MObj} (e : μ1[i]? = some o) : (μ1 ++ g)[i]? = some o := by
  rw [List.getElem?_append_left (List.getElem?_eq_some_iff.mp e).1]
  exact e
theorem Rel.cut (R : Rel K W H (μ1 ++ g)) (wf : Wf μ1) : Rel K W H μ1 where
  sub := R.sub
  obj := fun i o e => by
    cases o with
    | gone => trivial
    | lst xs =>
      obtain ⟨vs, h, r⟩ := R.obj i _ (pre_get e)
      exact ⟨vs, h, svs_cut r fun x hx => by
        cases x with
        | ref t => exact wf i xs e t hx
        | _ => trivial⟩
  own := fun i o e ha => R.own i o (pre_get e) ha
  inj := fun i j o o' e e' => R.inj i j o o' (pre_get e) (pre_get e')
  tab := R.tab
  sm := R.sm
  nt := R.nt
theorem Grow.cut (gr : Grow W H μ W' H' (μ1 ++ g)) (hl : μ.length ≤ μ1.length) : Grow W H μ W' H' μ1 :=
  ⟨⟨hl, gr.gr.same, gr.gr.at_⟩, fun a o h n l => let ⟨h1, l1⟩ := gr.frm a o h n l; ⟨h1, l1.1, fun t ob e ha => l1.2 t ob (pre_get e) ha⟩⟩
/-- what is wanted of the promise's end is wanted of the body's -/
theorem agree_ko {E : XK} {r : Res Sv} {r' : Res Out} {Q : VK} (a : Agree μ.length r r') (q : KoV K E W H μ r Q) : Ko K E W H μ r' (OutOk K { nx := fun _ H' => Q .non H', rt := Q }) := by
  cases r with
  | ok s μ1 =>
    cases r' with
    | ex c μ2 => exact a.elim
    | ok o μ2 =>
      cases o with
      | bk ρ => exact a.elim
      | ct ρ => exact a.elim
      | nx ρ =>
        obtain ⟨rfl, ⟨g, rfl⟩, wf, hl⟩ := a
        exact fun W' H' gr R σ _ => q W' H' (gr.cut hl) (R.cut wf) _ .non
      | rt s' =>
        obtain ⟨rfl, ⟨g, rfl⟩, wf, hl, hs⟩ := a
        exact fun W' H' gr R v rv => q W' H' (gr.cut hl) (R.cut wf) v (sv_cut rv hs)
  | ex c μ1 =>
    cases r' with
    | ok o μ2 => exact a.elim
    | ex c' μ2 =>
      obtain ⟨rfl, ⟨g, rfl⟩, wf, hl, hs⟩ := a
      refine fun W' H' cls d gr R x => q W' H' cls d (gr.cut hl) (R.cut wf) ⟨x.1, ?_⟩
      have x2 := x.2
      cases hf : c.fld with
      | none =>
        rw [hf] at x2
        exact x2
      | some fs =>
        obtain ⟨fn, s⟩ := fs
        rw [hf] at x2
        obtain ⟨dd, v, h1, h2, h3⟩ := x2
        exact ⟨dd, v, h1, h2, sv_cut h3 (hs fn s hf)⟩
end
def ini (N : Nat) (ss : List Sv) : Rho := ss.map some ++ List.replicate (N - ss.length) none
theorem ini_sl {K : PySem.W.Frag} {W : Wd} {n : Nat} {N : List Str} {vs : List V} {ss : List Sv} (h : SvRs K W n vs ss) : Sls K W n (L2.start N vs) (ini N.length ss) := by
  have hl := h.len
  refine ⟨fun i x e => ?_, ?_⟩
  · unfold ini at e
    unfold L2.start
    by_cases hi : i < ss.length
    · rw [List.getElem?_append_left (by rw [List.length_map]; exact hi), List.getElem?_map] at e
      cases q : ss[i]? with
      | none =>
        rw [q] at e
        cases e
      | some y =>
        rw [q] at e
        cases e
        obtain ⟨u, h1, h2⟩ := h.get q
        exact ⟨u, by rw [List.getElem?_append_left (by rw [List.length_map, hl]; exact hi), List.getElem?_map, h1]; rfl, h2⟩
    · rw [List.getElem?_append_right (by rw [List.length_map]; omega), List.getElem?_replicate] at e
      split at e <;> cases e
  · unfold ini L2.start
    rw [List.length_append, List.length_append, List.length_map, List.length_map, List.length_replicate, List.length_replicate, hl]
section
variable {P : Program} {w : World} {K : PySem.W.Frag} {mg : Str → Option Value} {base : Heap} {k : Nat} {f : Addr} {fd : FuncData} {x qual : Str} {st : Stmt} {N ps : List Str}
/-- the context in which a body stands -/
abbrev bx (P : Program) (w : World) (K : PySem.W.Frag) (mg : Str → Option Value) (base : Heap) (N : List Str) (qual : Str) (st : Stmt) (f : Addr) (cdv : Value) (A : Around) (below : List Env) (s : Shared) (H : Hp) (E : XK) : Cx :=
  cxOf (L2.CX P w) P w K mg base N qual (defScope st) f cdv A below s H E
theorem bx_pass {cdv : Value} {A : Around} {below : List Env} {s : Shared} {H : Hp} {E : XK} : Passes (L2.CX P w) (bx P w K mg base N qual st f cdv A below s H E) E := passes_call (takes_of rfl rfl rfl rfl) fun _ _ _ _ h => h
theorem bx_own {cdv : Value} {A : Around} {below : List Env} {s : Shared} {H : Hp} {E : XK} : PassesOwn (model P w) (bx P w K mg base N qual st f cdv A below s H E).A (bx P w K mg base N qual st f cdv A below s H E).env (bx P w K mg base N qual st f cdv A below s H E).xe := passes_of rfl
set_option maxHeartbeats 400000 in
theorem gk_run {sp : Sp} (F : Fun K x qual st f fd) (S : FnScope N ps (defScope st)) (len : ∀ vs H Q E, sp vs H Q E → vs.length = ps.length)
    (body : ∀ (cdv : Value) (_ : fd.code = cdv) (A : Around) (below : List Env) (s : Shared) (H : Hp) (vs : List V) (Q : VK) (E : XK), A.guards = some [] → Room k (bx P w K mg base N qual st f cdv A below s H E).A → sp vs H Q E →
      ∃ t, PSs (bx P w K mg base N qual st f cdv A below s H E) (defBody st) t ∧ t { nx := fun _ H' => Q .non H', rt := Q } (L2.start N vs) H) : Gk P w K mg base (L2.CX P w) (k + 1) f fd ps sp := by
  obtain ⟨oc, od, kV, doc, pm, an, cdv, ct, osl, rfl, lk, hcd⟩ := F.ex
  refine ⟨len, fun A below s H ar us vs Q E hgd hr e0 hb rv hsp => ?_⟩
  have ln := len _ _ _ _ hsp
  have inK : K.In s.heap := e0.mod.kin.keeps fun b o e => And.left (e0.bs b o e)
  have roomy : s.heap.NoLimit := e0.mod.nolimit.keeps fun b o e => And.left (e0.bs b o e)
  have kinds : ∀ y ∈ ps.zip us, (defScope st).names.lookup y.1 = some .local ∨ ((defScope st).names.lookup y.1 = some .cell ∧ ((cellsFrom (s.heap.objs.size + 1) (defScope st).names []).lookup y.1).isSome = true) := by
    intro ⟨n, v⟩ hy
    rcases S.par n (List.of_mem_zip hy).1 with z | z
    · exact .inl z
    · exact .inr ⟨z, PySem.W.cellsFrom_some _ _ _ (.inl z)⟩
  refine codeAny_call_function (Room.depth hr) (inK _ _ lk) rfl S.co S.gen rfl (PySem.W.codeRec_of inK hcd) (hb _ _ _ _ ?_)
  refine wpAny_newFunctionEnv_cells S.kind kinds ?_
  intro env he s1 made
  subst he
  refine ⟨roomy.keeps made.toInCall.keep, codeAny_func ?_⟩
  obtain ⟨t, ht, hq⟩ := body cdv rfl A below s H vs Q E hgd (Room.deeper hr _) hsp
  have I0 : Inv (bx P w K mg base N qual st f cdv A below s H E) [] (L2.start N vs) H s1 := inv_start S hr.hd e0 ln rv made
  refine wpAny_mono (ht.run [] s1 (L2.start N vs) H _ I0 hq) ?_ fun _ _ z => z
  intro fl s2 hs
  have done : ∀ {σ' : L2.St} {H' : Hp} {v : V} {u : Value}, Inv (bx P w K mg base N qual st f cdv A below s H E) [] σ' H' s2 → RelV v u → Q v H' → CE below P w H s Q u s2 := fun J rel q => ⟨_, _, J.os, J.bare, J.base, J.hok, rel, q⟩
  cases fl with
  | brk =>
    obtain ⟨_, _, _, z⟩ := hs
    exact z.elim
  | cont =>
    obtain ⟨_, _, _, z⟩ := hs
    exact z.elim
  | ret u =>
    obtain ⟨v, σ', H', J, rel, q⟩ := hs
    exact done J rel q
  | next =>
    obtain ⟨σ', H', J, q⟩ := hs
    exact done (v := V.non) (u := Value.none) J rfl q
/-- THE RULE: a def by the pure reading of its body -/
theorem gk_of {n : Nat} {Fm : List Sv → M Sv} (F : Fun K x qual st f fd) (S : FnScope N ps (defScope st)) (hn : ps.length = n)
    (G : Rho → M Out) (body : ∀ (cdv : Value) (A : Around) (below : List Env) (s : Shared) (H : Hp) (E : XK), A.guards = some [] → Room k (bx P w K mg base N qual st f cdv A below s H E).A → PSSX (bx P w K mg base N qual st f cdv A below s H E) E (defBody st) G)
    (same : ∀ (ss : List Sv) (μ : Mu) (r : Res Sv), ss.length = n → Wf μ → Fm ss μ = some r → ∃ r', G (ini N.length ss) μ = some r' ∧ Agree μ.length r r') : Gk P w K mg base (L2.CX P w) (k + 1) f fd ps (spM K n Fm) := by
  refine gk_run F S (fun vs H Q E h => h.1.trans hn.symm) fun cdv _ A below s H vs Q E hgd hr ⟨hl, W, μ, ss, r, R, rs, e, q⟩ => ⟨_, body cdv A below s H E hgd hr, ?_⟩
  obtain ⟨r', e', a⟩ := same ss μ r (by rw [← hl, rs.len]) R.wf e
  exact ⟨W, ini N.length ss, μ, r', ⟨R, ini_sl rs⟩, e', agree_ko a q⟩
end
end Pf

namespace Pf
open PySem PySem.Spec PyProof.Rows L2

/-! ### the law's own call, at its one place: no repr is under way there -/
section
variable {P : Program} {w : World} {K : PySem.W.Frag} {mg mb : Str → Option Value} {k : Nat} {fa a : Addr} {fd : FuncData} {x : Str} {sp : Sp} {s₁ : Shared} {vs : List Value} {ns : List Int}
/-- the heap at the law's entry: what is held stays as it is -/
abbrev OnlyF (H : Hp) : Prop := ∀ b, H b = none ∨ ∃ ob u, H b = some (.frz ob u)
/-- what the end of the whole law says -/
abbrev LawEnd (s₁ : Shared) (r : Result) (s' : Shared) : Prop := r = .ok (.ret (.bool true)) ∧ OldK s₁.heap s'.heap ∧ s'.os = s₁.os ∧ AllBare s'.gens
theorem law_from (KX : K.In s₁.heap) (hns : s₁.heap.Ns mainGlobals mg) (hb : s₁.heap.Ns builtinsNs mb) (hbb : ∀ x : Str, x ≠ "__name__" → mb x = bootBuiltins x) (hlim : s₁.heap.NoLimit) (hg : s₁.gens = #[])
    {own : Obj} (ha : s₁.heap.get? a = some own) (hseq : ∀ es ep, own.data ≠ .dict es ep) (hr : Room k callerA)
    (F : ∀ base : Heap, K.In base → base.Ns mainGlobals mg → Gk P w K mg base (L2.CX P w) k fa fd [x] sp) (hbind : ∀ (s : Shared) (u : Value), BindsTo s fd ⟨[u], []⟩ [(x, u)])
    (H : Hp) (only : OnlyF H) (hok : HOk P w H s₁.heap) (one : ∀ b, b ≠ sysModules → H b ≠ none → b = a) (apart : H a ≠ none → K.lookup a = none) (aps : H sysModules ≠ none → K.lookup sysModules = none)
    (hsp : sp [.ref a] H (fun v _ => v = .bl true) fun _ _ _ => False) : codeAny (model P w) callerA (.call (.ref fa) ⟨[.ref a], []⟩) (LawEnd s₁) s₁ := by
  have noDict : ∀ {b : Addr} {o : Obj} {es : Array DictEntry} {ep : Nat}, b ≠ sysModules → s₁.heap.get? b = some o → o.data = .dict es ep → H b = none := by
    intro b o es ep nb e d
    cases q : H b with
    | none => rfl
    | some u =>
      have eb : b = a := one b nb fun z => by
        rw [q] at z
        cases z
      subst eb
      rw [ha] at e
      cases e
      exact absurd d (hseq es ep)
  have sees : ∀ {b : Addr} {m : Str → Option Value}, b ≠ sysModules → s₁.heap.Ns b m → (hidT s₁.heap H).Ns b m := by
    intro b m nb z
    obtain ⟨o, es, ep, e, d, r⟩ := z
    exact ⟨o, es, ep, hidT_get e (noDict nb e d), d, r⟩
  have inB : K.In (hidT s₁.heap H) := by
    intro b o e
    refine hidT_get (KX b o e) ?_
    cases q : H b with
    | none => rfl
    | some u =>
      have nn : H b ≠ none := fun z => by
        rw [q] at z
        cases z
      by_cases hbs : b = sysModules
      · rw [hbs] at e nn
        rw [aps nn] at e
        cases e
      · have eb : b = a := one b hbs nn
        rw [eb] at e nn
        rw [apart nn] at e
        cases e
  have lim : (hidT s₁.heap H).NoLimit := by
    obtain ⟨mc, h1, h2⟩ := hlim
    exact ⟨mc, sees (by decide) h1, h2⟩
  have md : Mod K mg (hidT s₁.heap H) := ⟨inB, sees (by decide) hns, ⟨mb, sees (by decide) hb, hbb⟩, lim⟩
  have gone : ∀ b ∈ frs ([] : List Env), H b = none := fun b z => absurd (show b ∈ ([] : List Addr) from z) List.not_mem_nil
  have e0 : Env0 P w K mg (hidT s₁.heap H) callerA [] s₁ H := ⟨rfl, md, fun _ _ e => of_hidT e, Nat.le_of_eq (hidT_size _ _), trivial, gone, hok, .of_eq hg⟩
  have go := (F (hidT s₁.heap H) inB (sees (by decide) hns)).grun callerA [] s₁ H ⟨[.ref a], []⟩ [.ref a] [.ref a] _ _ rfl hr e0 (hbind s₁ (.ref a)) (.cons rfl .nil) hsp
  refine codeAny_mono go ?_
  intro r s' h
  cases r with
  | error e =>
    obtain ⟨_, _, _, _, _, _, _, _, _, _, _, _, z⟩ := h
    exact z.elim
  | ok fl =>
    cases fl with
    | next => exact False.elim h
    | brk => exact False.elim h
    | cont => exact False.elim h
    | ret u =>
      obtain ⟨v, H', os, bare, un, hok2, rel, q⟩ := h
      have ev : v = .bl true := q
      subst ev
      have eu : u = Value.bool true := rel
      subst eu
      refine ⟨rfl, OldK.of_keep ?_, os, bare⟩
      intro b o e
      cases q : H b with
      | none => exact un.keep b o e q (fun z => absurd (show b ∈ ([] : List Addr) from z) List.not_mem_nil) List.not_mem_nil
      | some u =>
        rcases only b with z | ⟨ob, xs, z⟩
        · rw [q] at z
          cases z
        · obtain ⟨e1, _⟩ := hok b _ z
          obtain ⟨e2, _⟩ := hok2 b _ (un.frzs b ob _ z)
          rw [e] at e1
          cases e1
          exact e2
/-- what is held at the law's entry beside the script: the modules' dict, as it is -/
noncomputable def sysH (K : PySem.W.Frag) (om : Obj) : Hp := fun b => if b = sysModules ∧ K.lookup sysModules = none then some (.frz om (.own 0)) else none
theorem sysH_ne {om : Obj} {b : Addr} (h : b ≠ sysModules) : sysH K om b = none := if_neg fun z => h z.1
theorem sysH_some {om : Obj} {b : Addr} {u : HO} (h : sysH K om b = some u) : b = sysModules ∧ u = .frz om (.own 0) ∧ K.lookup sysModules = none := by
  unfold sysH at h
  split at h
  · next z => exact ⟨z.1, (Option.some.inj h).symm, z.2⟩
  · cases h
theorem sysH_at {om : Obj} (h : K.lookup sysModules = none) : sysH K om sysModules = some (.frz om (.own 0)) := if_pos ⟨rfl, h⟩
theorem sys_ok {H : Hp} {h : Heap} {om : Obj} {es : Array DictEntry} {ep : Nat} (KX : K.In h) (e : h.get? sysModules = some om) (d : om.data = .dict es ep) (hH : H sysModules = sysH K om sysModules) : SmOk K H := by
  cases q : K.lookup sysModules with
  | some o =>
    have := KX _ _ q
    rw [e] at this
    cases this
    exact .inl ⟨_, _, _, q, d⟩
  | none => exact .inr ⟨om, es, ep, by rw [hH, sysH_at q], d⟩
theorem law_by (KX : K.In s₁.heap) (hns : s₁.heap.Ns mainGlobals mg) (hb : s₁.heap.Ns builtinsNs mb) (hbb : ∀ x : Str, x ≠ "__name__" → mb x = bootBuiltins x) (hlim : s₁.heap.NoLimit) (hg : s₁.gens = #[])
    (ha : s₁.heap.get? a = some { cls := .type "list", data := .seq vs.toArray }) (hi : IntsAre vs ns) (hl : ns.length ≤ sizeLine) (hr : Room k callerA) {mm : Str → Option Value} (hm : s₁.heap.Ns sysModules mm)
    (F : ∀ base : Heap, K.In base → base.Ns mainGlobals mg → Gk P w K mg base (L2.CX P w) k fa fd [x] sp) (hbind : ∀ (s : Shared) (u : Value), BindsTo s fd ⟨[u], []⟩ [(x, u)])
    (hsp : ∀ H : Hp, OnlyF H → SmOk K H → SqL K H a (ns.map V.int) → sp [.ref a] H (fun v _ => v = .bl true) fun _ _ _ => False) : codeAny (model P w) callerA (.call (.ref fa) ⟨[.ref a], []⟩) (LawEnd s₁) s₁ := by
  have rv := vals_ints hi
  have nd : ∀ es ep, ({ cls := .type "list", data := .seq vs.toArray } : Obj).data ≠ .dict es ep := fun _ _ z => nomatch z
  obtain ⟨om, es, ep, em, dm, _⟩ := hm
  have nas : a ≠ sysModules := fun z => by
    rw [z, em] at ha
    cases ha
    cases dm
  have onl0 : OnlyF (sysH K om) := fun b => by
    cases q : sysH K om b with
    | none => exact .inl rfl
    | some u => exact .inr ⟨_, _, by rw [(sysH_some q).2.1]⟩
  have ok0 : HOk P w (sysH K om) s₁.heap := fun b u z => by
    obtain ⟨h1, h2, _⟩ := sysH_some z
    subst h1 h2
    exact ⟨em, _, em⟩
  have aps0 : sysH K om sysModules ≠ none → K.lookup sysModules = none := fun z => by
    cases q : sysH K om sysModules with
    | none => exact absurd q z
    | some u => exact (sysH_some q).2.2
  cases hk : K.lookup a with
  | some o =>
    have e := KX a o hk
    rw [ha] at e
    cases e
    have sq : SqL K (sysH K om) a (ns.map V.int) := .inr ⟨_, vs.toArray, _, hk, rfl, rfl, rfl, by rw [List.size_toArray, hi.length]; exact hl, by simpa using rv⟩
    exact law_from KX hns hb hbb hlim hg ha nd hr F hbind (sysH K om) onl0 ok0 (fun b nb z => absurd (sysH_ne nb) z) (fun z => absurd (sysH_ne nas) z) aps0 (hsp _ onl0 (sys_ok KX em dm rfl) sq)
  | none =>
    let fz : HO := .frz { cls := .type "list", data := .seq vs.toArray } (.lst (ns.map V.int))
    let H1 : Hp := upd (sysH K om) a fz
    have at1 : H1 a = some fz := upd_same
    have off : ∀ b, b ≠ a → H1 b = sysH K om b := fun b hb => upd_ne hb
    have onl : OnlyF H1 := fun b => by
      by_cases eb : b = a
      · exact .inr ⟨_, _, by rw [eb]; exact at1⟩
      · rw [off b eb]
        exact onl0 b
    refine law_from KX hns hb hbb hlim hg ha nd hr F hbind H1 onl (fun b u z => ?_) (fun b nb z => ?_) (fun _ => hk) (fun z => aps0 (by rw [off _ nas.symm] at z; exact z)) (hsp H1 onl (sys_ok KX em dm (off _ nas.symm)) (.inl (.inr ⟨_, at1⟩)))
    · by_cases eb : b = a
      · subst eb
        rw [at1] at z
        cases z
        exact ⟨ha, by rw [List.length_map]; exact hl, vs, _, rv, ha⟩
      · rw [off b eb] at z
        exact ok0 b u z |> fun h => by
          obtain ⟨h1, h2, _⟩ := sysH_some z
          subst h1 h2
          exact ⟨em, _, em⟩
    · by_cases eb : b = a
      · exact eb
      · exact absurd ((off b eb).trans (sysH_ne nb)) z
end
/-- the goal that k_head leaves -/
theorem law_walk {l : PySem.W.OpenLaw} {n k : Nat} {q : Program} {loose : List Str} {XP : (Str → Option Value) → Heap → Prop} {YP : World → Heap → Prop} {d : DefRec} {K : Params → PySem.W.Frag} {sp : PySem.W.Frag → Sp} {x : Str}
    (hn : l.most = some n) (hn2 : n ≤ sizeLine) (hdf : d.params.defaults = []) (hr : Room k callerA) (hY : ∀ (w : World) (h : Heap), YP w h → (K w.params).In h)
    (F : ∀ (w : World) (mg : Str → Option Value) (fa : Addr) (h : Heap), (K w.params).In h → h.Ns mainGlobals mg → mg d.name = some (.ref fa) →
      ∃ fd : FuncData, (∀ (s : Shared) (u : Value), BindsTo s fd ⟨[u], []⟩ [(x, u)]) ∧ ∀ base : Heap, (K w.params).In base → base.Ns mainGlobals mg → Gk l.prog w (K w.params) mg base (L2.CX l.prog w) k fa fd [x] (sp (K w.params)))
    (hsp : ∀ (K : PySem.W.Frag) (H : Hp) (a : Addr) (ns : List Int), ns.length ≤ n → OnlyF H → SmOk K H → SqL K H a (ns.map V.int) → sp K [.ref a] H (fun v _ => v = .bl true) fun _ _ _ => False) (him : importsNone q = true := by decide +kernel) :
    PySem.W.WalkO q loose XP YP l.row.toRowW d [] (fun f vs => PySem.call f vs) := by
  refine Att.attach_call hn hdf ?_
  intro w s₀ s₁ mg mb fa o pm cd doc a vs ns G Y ho hd hcd hmg hobj hints hlen hg
  have KX := hY w _ Y
  obtain ⟨fd, hb, hF⟩ := F w mg fa _ KX G.T.g hmg
  exact law_by KX G.T.g G.T.b G.T.builtins G.T.nolimit hg hobj hints (Nat.le_trans hlen hn2) hr (G.T.seer him).mods.choose_spec.1 hF hb fun H h1 h2 h3 => hsp _ H a ns hlen h1 h2 h3
/-- the law's promise: a pure reading upon the script gives True -/
def spLaw (Fm : List Sv → M Sv) (most : Nat) (K : PySem.W.Frag) : Sp := spM K 1 Fm
theorem spLaw_of {Fm : List Sv → M Sv} {most : Nat} (h : ∀ ns : List Int, ns.length ≤ most → ∃ μ, Fm [.scr ns] [] = some (.ok (.dat (.bool true)) μ)) (hT : lamT = [] := by rfl) (K : PySem.W.Frag) (H : Hp) (a : Addr) (ns : List Int) (hl : ns.length ≤ most) (hO : OnlyF H) (hsm : SmOk K H) (hs : SqL K H a (ns.map V.int)) :
    spLaw Fm most K [.ref a] H (fun v _ => v = .bl true) fun _ _ _ => False := by
  obtain ⟨μ, e⟩ := h ns hl
  have R : Rel K ⟨fun _ => 0, H⟩ H [] := ⟨Same.refl _, fun i o e => by simp at e, fun i o e => by simp at e, fun i j o o' e => by simp at e, fun p hp => (by rw [hT] at hp; cases hp), hsm, fun b ps z => (by
    have z' : H b = some (.tbl ps) := z
    rcases hO b with q | ⟨_, _, q⟩
    · rw [q] at z'; cases z'
    · rw [q] at z'; cases z')⟩
  refine ⟨rfl, ⟨fun _ => 0, H⟩, [], [.scr ns], _, R, .cons ⟨a, rfl, hs⟩ .nil, e, fun W' H' g R' v rv => ?_⟩
  cases rv
  rfl
end Pf

namespace Pf
open PySem PySem.Spec PyProof.Rows L2
section
variable {X : Cx} {E : XK} {e a b c iter tg : Expr} {es : List Expr} {Fa Fb Fc : Rho → M Sv} {Fs : Rho → M (List Sv)} {pos p tpos : Pos}
def negV (Fa : Rho → M Sv) (ρ : Rho) : M Sv := (Fa ρ).bind fun s => (asI s).bind fun i => M.ret (.dat (.int (-i)))
theorem x_ng (ha : PX X E a Fa) : PX X E (.UnaryOp .USub a pos) (negV Fa) := x_neg ha
/-- a call of a def of one's own, all arguments written -/
def callF (Fm : List Sv → M Sv) (n : Nat) (Fs : Rho → M (List Sv)) (ρ : Rho) : M Sv := (Fs ρ).bind fun ss => if decide (ss.length = n) = true then Fm ss else M.fail
theorem x_call1 {CX : CXT} {k j : Nat} {f : Addr} {fd : FuncData} {ps : List Str} {x : Str} {n : Nat} {Fm : List Sv → M Sv} (F : Gk X.prog X.w X.K X.mg X.base CX j f fd ps (spM X.K n Fm)) (hgd : X.A.guards = some []) (hr : Room k X.A) (hm : X.mg x = some (.ref f)) (hk : PySem.W.keepIn X.K (.ref f) = true) (hb : Binds X.K fd ps [])
    (hx : Passes CX X E) (ha : PAX X E (e :: es) Fs) (hg : Gl X x := by rfl) (hj : j ≤ k := by decide) (hdb : (x == ("__debug__" : Str)) = false := by decide) (he : starEach (e :: es) X.env = (false, eval e X.env) :: starEach es X.env := by rfl) (hpl : (backTo pos (starEach es X.env)).any (·.1) = false := by rfl) :
    PX X E (.Call (.Name x p) (e :: es) [] pos) (callF Fm n Fs) := by
  have z := x_call (p := p) (pos := pos) (dd := []) F hgd (hr.mono hj) hm hk hb .nil (fun _ => .nil) hx ha hg hdb he hpl
  have eq : (fun ρ => (Fs ρ).bind fun ss => if decide (ss.length + ([] : List PyData).length = n) = true then Fm (ss ++ ([] : List PyData).map Sv.dat) else M.fail) = callF Fm n Fs := by
    funext ρ
    show M.bind (Fs ρ) _ = M.bind (Fs ρ) _
    congr 1
    funext ss
    rw [List.map_nil, List.append_nil]
    rfl
  rw [eq] at z
  exact z
/-! ### zip of two lists or two tuples of data -/
def zipD (ds es : List PyData) : List PyData := List.zipWith (fun d e => .tuple [d, e]) ds es
theorem zip_at {ds es : List PyData} {i : Nat} {x : PyData} (h : (zipD ds es)[i]? = some x) : ∃ d e, ds[i]? = some d ∧ es[i]? = some e ∧ x = .tuple [d, e] := by
  unfold zipD at h
  rw [List.getElem?_zipWith] at h
  cases q : ds[i]? with
  | none =>
    rw [q] at h
    simp at h
  | some d =>
    cases q2 : es[i]? with
    | none =>
      rw [q, q2] at h
      simp at h
    | some e =>
      rw [q, q2] at h
      exact ⟨d, e, rfl, rfl, (Option.some.inj h).symm⟩
theorem pair_new {K : PySem.W.Frag} {W1 : Wd} {H : Hp} {μ : Mu} {T : Addr} {x y : V} {d e : PyData} (R : Rel K W1 H μ) (nT : H T = none) (h1 : Dq K W1.S x d) (h2 : Dq K W1.S y e) :
    ∃ W2, Grow W1 H μ W2 (upd H T (.tup [x, y])) μ ∧ Rel K W2 (upd H T (.tup [x, y])) μ ∧ Dq K W2.S (.ref T) (.tuple [d, e]) := by
  have g : Grow W1 H μ (W1.put T (.tup [x, y])) (upd H T (.tup [x, y])) μ := grow_share R nT
  exact ⟨_, g, R.share nT, .tup (SqT.of upd_same) (.cons (Dq.mono g.same h1) (.cons (Dq.mono g.same h2) .nil))⟩
end
end Pf

namespace Pf
open PySem PySem.Spec PyProof.Rows L2

/-! ### a body as its own promise -/
def strip (n : Nat) (G : Rho → M Out) (ss : List Sv) : M Sv := fun μ => match G (ini n ss) μ with
  | some (.ok (.rt s) μ') => some (.ok s μ')
  | some (.ok (.nx _) μ') => some (.ok (.dat .none) μ')
  | some (.ex c μ') => some (.ex c μ')
  | _ => none
section
variable {P : Program} {w : World} {K : PySem.W.Frag} {mg : Str → Option Value} {base : Heap} {k : Nat} {f : Addr} {fd : FuncData} {x qual : Str} {st : Stmt} {N ps : List Str}
theorem strip_ko {K : PySem.W.Frag} {E : XK} {W : Wd} {H : Hp} {μ : Mu} {ρ : Rho} {G : Rho → M Out} {n : Nat} {ss : List Sv} {r : Res Sv} {Q : VK} (e : strip n G ss μ = some r) (q : KoV K E W H μ r Q) :
    ∃ r', G (ini n ss) μ = some r' ∧ Ko K E W H μ r' (OutOk K { nx := fun _ H' => Q .non H', rt := Q }) := by
  unfold strip at e
  split at e
  · rename_i s μ' eg
    cases e
    exact ⟨_, eg, q⟩
  · rename_i ρ' μ' eg
    cases e
    exact ⟨_, eg, fun W' H' g R σ _ => q W' H' g R _ .non⟩
  · rename_i c μ' eg
    cases e
    exact ⟨_, eg, q⟩
  · cases e
theorem gk_strip {n : Nat} {l : Nat} (F : Fun K x qual st f fd) (S : FnScope N ps (defScope st)) (hn : ps.length = n) (hl : N.length = l)
    (G : Rho → M Out) (body : ∀ (cdv : Value) (A : Around) (below : List Env) (s : Shared) (H : Hp) (E : XK), A.guards = some [] → Room k (bx P w K mg base N qual st f cdv A below s H E).A → PSSX (bx P w K mg base N qual st f cdv A below s H E) E (defBody st) G) :
    Gk P w K mg base (L2.CX P w) (k + 1) f fd ps (spM K n (strip l G)) := by
  refine gk_run F S (fun vs H Q E h => h.1.trans hn.symm) fun cdv _ A below s H vs Q E hgd hr ⟨hvl, W, μ, ss, r, R, rs, e, q⟩ => ⟨_, body cdv A below s H E hgd hr, ?_⟩
  subst hl
  obtain ⟨r', e', q'⟩ := strip_ko (ρ := []) e q
  exact ⟨W, ini N.length ss, μ, r', ⟨R, ini_sl rs⟩, e', q'⟩
end
theorem strip_rt {n : Nat} {G : Rho → M Out} {ss : List Sv} {μ μ' : Mu} {s : Sv} (h : G (ini n ss) μ = some (.ok (.rt s) μ')) : strip n G ss μ = some (.ok s μ') := by
  unfold strip
  rw [h]

/-! ### running -/
theorem set_at {α : Type} {m : M α} {μ : Mu} : M.bind m M.ret μ = m μ := by
  unfold M.bind
  cases m μ with
  | none => rfl
  | some r => cases r <;> rfl
theorem lcL_map {T : Sv → Rho → M Rho} {Fe : Rho → M Sv} {ρ : Rho} {μ : Mu} (g : PyData → Sv) : ∀ {ds : List PyData}, (∀ d ∈ ds, ∃ ρ1, T (.dat d) ρ μ = some (.ok ρ1 μ) ∧ Fe ρ1 μ = some (.ok (g d) μ)) → lcL T yes Fe ds ρ μ = some (.ok (ds.map g) μ)
  | [], _ => rfl
  | d :: ds, h => by
    obtain ⟨ρ1, e1, e2⟩ := h d List.mem_cons_self
    have ih := lcL_map g (ds := ds) (T := T) (Fe := Fe) (ρ := ρ) (μ := μ) fun d hd => h d (List.mem_cons_of_mem _ hd)
    simp only [lcL, M.bind, noEx, e1, yes, M.ret, e2, if_true, ih, List.map_cons]

/-! ### the deck -/
def Gdraw : Rho → M Out :=
  (gSeq (gAsg (bin (pAdd false) (bin pIx (slot 0) (con (.int 1))) (con (.int 1))) (gSt (slot 0) (con (.int 1))))
  (gSeq (gAsg (tupV (argC (con (.int 0)) (argC (negV (con (.int 1))) argN))) (gTp 2 (gsCons (gNm 2) (gsCons (gNm 3) gsNil))))
  (gSeq (gIf (tst (bin pGt (callV bLen (argC (bin pIx (slot 0) (con (.int 0))) argN)) (con (.int 0))))
  (gSeq (gSet 3 (bin pMod (bin pIx (slot 0) (con (.int 1))) (callV bLen (argC (bin pIx (slot 0) (con (.int 0))) argN))))
  (gSet 2 (bin pIx (bin pIx (slot 0) (con (.int 0))) (slot 3))))
  gSkip)
  (gSeq (gIf (tst (bin pGe (slot 2) (bin pPow (con (.int 10)) (con (.int 18)))))
  (gSeq (gAsg (bin pFdiv (slot 2) (slot 1)) (gSt (bin pIx (slot 0) (con (.int 0))) (slot 3)))
  (gRet (bin pMod (slot 2) (slot 1))))
  gSkip)
  (gRet (bin pMod (bin pFdiv (bin pMod (bin pPow (bin (pAdd false) (bin (pAdd false) (bin pMod (slot 2) (con (.int 2147483587))) (bin (pMul false) (con (.int 7919)) (bin pIx (slot 0) (con (.int 1))))) (con (.int 1))) (con (.int 5))) (con (.int 2147483647))) (con (.int 7))) (slot 1)))))))

abbrev svI (i : Int) : Sv := .dat (.int i)
def deckMu (cs : List Int) (n : Int) (rest : Mu) : Mu := .lst (cs.map svI) :: .lst [.ref 0, svI n] :: rest
structure Deck (n : Int) (rest μ : Mu) : Prop where
  ex : ∃ cs : List Int, cs.length ≤ 63 ∧ (∀ c ∈ cs, 0 ≤ c) ∧ μ = deckMu cs n rest
end Pf

namespace Pf
open PySem PySem.Spec PyProof.Rows L2
/-! ### evaluation by simp -/
theorem atI_0 {α : Type} (x : α) (r : List α) : atI (x :: r) 0 = some x := by
  have := atI_nat (xs := x :: r) (j := 0) (v := x) rfl
  exact this
theorem atI_1 {α : Type} (x y : α) (r : List α) : atI (x :: y :: r) 1 = some y := atI_nat (xs := x :: y :: r) (j := 1) (v := y) rfl
theorem atI_lt {α : Type} {xs : List α} {i : Int} (h0 : 0 ≤ i) (h1 : i < xs.length) : ∃ x, xs[i.toNat]? = some x ∧ atI xs i = some x := by
  have hi : i.toNat < xs.length := by omega
  refine ⟨xs[i.toNat], List.getElem?_eq_getElem hi, ?_⟩
  have := atI_nat (List.getElem?_eq_getElem hi)
  rw [Int.toNat_of_nonneg h0] at this
  exact this
theorem ixN_lt {n : Nat} {i : Int} (h0 : 0 ≤ i) (h1 : i < n) : ixN n i = some i.toNat := by
  unfold ixN
  rw [if_pos h0, if_pos h1]
theorem ret_at {α : Type} (a : α) (μ : Mu) : M.ret a μ = some (.ok a μ) := rfl
theorem iteM {α : Type} {c : Prop} [Decidable c] (m m' : M α) (μ : Mu) : (if c then m else m') μ = if c then m μ else m' μ := by
  by_cases h : c
  · rw [if_pos h, if_pos h]
  · rw [if_neg h, if_neg h]
/-- a statement of a row: this ends so -/
theorem seq_at {G G' : Rho → M Out} {ρ ρ' : Rho} {μ μ' : Mu} (h : G ρ μ = some (.ok (.nx ρ') μ')) : gSeq G G' ρ μ = G' ρ' μ' := by
  unfold gSeq M.bind
  rw [h]
theorem seq_rt {G G' : Rho → M Out} {ρ : Rho} {μ μ' : Mu} {s : Sv} (h : G ρ μ = some (.ok (.rt s) μ')) : gSeq G G' ρ μ = some (.ok (.rt s) μ') := by
  unfold gSeq M.bind
  rw [h]
  rfl
theorem if_t {F : Rho → M Bool} {G G' : Rho → M Out} {ρ : Rho} {μ μ' : Mu} (h : F ρ μ = some (.ok true μ')) : gIf F G G' ρ μ = G ρ μ' := by
  unfold gIf M.bind
  rw [h]
  rfl
theorem if_f {F : Rho → M Bool} {G G' : Rho → M Out} {ρ : Rho} {μ μ' : Mu} (h : F ρ μ = some (.ok false μ')) : gIf F G G' ρ μ = G' ρ μ' := by
  unfold gIf M.bind
  rw [h]
  rfl
theorem gset_at {i : Nat} {Fa : Rho → M Sv} {ρ : Rho} {μ μ' : Mu} {s : Sv} (h : Fa ρ μ = some (.ok s μ')) : gSet i Fa ρ μ = some (.ok (.nx (ρ.set i (some s))) μ') := by
  unfold gSet
  rw [bind_ok h]
  rfl
/-! ### the draws -/
end Pf

namespace Pf
open PySem PySem.Spec PyProof.Rows L2
/-! ### trees -/
def rowD (r : Int × Int) : PyData := .tuple [.int r.1, .int r.2]
def treeD (rows : List (Int × Int)) : PyData := .tuple (rows.map rowD)
def TreeOk (rows : List (Int × Int)) : Prop := ∀ (k : Nat) (r : Int × Int), rows[k]? = some r → 0 ≤ r.1 ∧ r.1 ≤ k ∧ 1 ≤ r.2 ∧ r.2 ≤ 1000000
theorem TreeOk.nil : TreeOk [] := fun k r h => by simp at h
theorem TreeOk.snoc {rows : List (Int × Int)} {p l : Int} (h : TreeOk rows) (a : 0 ≤ p) (b : p ≤ rows.length) (c : 1 ≤ l) (d : l ≤ 1000000) : TreeOk (rows ++ [(p, l)]) := fun k r e => by
  by_cases hk : k < rows.length
  · rw [List.getElem?_append_left hk] at e
    exact h k r e
  · have hk2 : k < (rows ++ [(p, l)]).length := (List.getElem?_eq_some_iff.mp e).1
    rw [List.length_append, List.length_singleton] at hk2
    have : k = rows.length := by omega
    subst this
    rw [List.getElem?_append_right (Nat.le_refl _), Nat.sub_self] at e
    cases e
    exact ⟨a, b, c, d⟩
theorem two {i : Int} (h0 : 0 ≤ i) (h1 : i < 2) : i = 0 ∨ i = 1 := by omega
end Pf

namespace Pf
open PySem PySem.Spec PyProof.Rows L2
/-! ### data whose repr is short -/
mutual
def wt : PyData → Nat
  | .none => 4
  | .bool _ => 5
  | .int _ => 44
  | .str x => (reprText x).length
  | .list ds => wts ds + 2
  | .tuple ds => wts ds + 3
  | .dict ds => wtk ds + 2
def wts : List PyData → Nat
  | [] => 0
  | d :: ds => wt d + 2 + wts ds
def wtk : List (PyData × PyData) → Nat
  | [] => 0
  | (c, d) :: ds => wt c + wt d + 4 + wtk ds
end
mutual
def lfs : PyData → Bool
  | .int i => decide (i.natAbs < 10 ^ 42)
  | .list ds => lfss ds
  | .tuple ds => lfss ds
  | .dict ds => lfsk ds
  | _ => true
def lfss : List PyData → Bool
  | [] => true
  | d :: ds => lfs d && lfss ds
def lfsk : List (PyData × PyData) → Bool
  | [] => true
  | (c, d) :: ds => lfs c && lfs d && lfsk ds
end
theorem list_text (ts : List Str) : (listText ts).length ≤ piled ts + 2 := by
  unfold listText
  rw [strLen_append]
  have e1 : ((("]" : String) : Str)).length = 1 := rfl
  rw [e1]
  cases ts with
  | nil =>
    show (("[" : String) : Str).length + 1 ≤ _
    have : ((("[" : String) : Str)).length = 1 := rfl
    omega
  | cons t r =>
    have h := textFrom_length_pos r 1 (("[" : Str) ++ (if (0 : Nat) > 0 then ", " else "" : String) ++ t) (Nat.succ_pos 0)
    have e : ((("[" : Str) ++ (if (0 : Nat) > 0 then ", " else "" : String) ++ t)).length = 1 + t.length := by
      rw [strLen_append, strLen_append]
      rfl
    have hy : (textFrom 0 "[" (t :: r)).length = (textFrom 1 (("[" : Str) ++ (if (0 : Nat) > 0 then ", " else "" : String) ++ t) r).length := rfl
    rw [hy, h, e, piled_cons]
    omega
theorem dict_text (ts : List Str) : (dictText ts).length ≤ piled ts + 2 := by
  unfold dictText
  rw [strLen_append, strLen_append]
  have e1 : ((("}" : String) : Str)).length = 1 := rfl
  have e2 : ((("{" : String) : Str)).length = 1 := rfl
  rw [e1, e2]
  by_cases h : ts = []
  · subst h
    have : (Str.join ", " []).length = 0 := by decide +kernel
    rw [this]
    omega
  · have := join_length_add ts h
    omega
theorem colon_len (a b : Str) : (a ++ ": " ++ b).length = a.length + 2 + b.length := by
  rw [strLen_append, strLen_append]
  rfl
mutual
theorem shown_le : ∀ d : PyData, lfs d = true → d.shown.length ≤ wt d
  | .none, _ => by
    simp only [PyData.shown, wt]
    decide +kernel
  | .bool b, _ => by
    simp only [PyData.shown, wt]
    cases b <;> decide +kernel
  | .int i, h => by
    have h' : i.natAbs < 10 ^ 42 := of_decide_eq_true (by simpa only [lfs] using h)
    simp only [PyData.shown, wt]
    have := int_text_length_le10 (a := i) (k := 42) (by decide) h'
    have e : (Str.ofString (toString i)).length = (toString i).length := by
      exact PySem.ofString_length _
    show (Str.ofString (toString i)).length ≤ 44
    omega
  | .str x, _ => by
    simp only [PyData.shown, wt]
    exact Nat.le_refl _
  | .list ds, h => by
    have ih := shown_les ds (by simpa only [lfs] using h)
    simp only [PyData.shown, wt]
    have := list_text (PyData.shownAll ds)
    omega
  | .tuple ds, h => by
    have ih := shown_les ds (by simpa only [lfs] using h)
    simp only [PyData.shown, wt]
    have := fmt_text (PyData.shownAll ds)
    omega
  | .dict ds, h => by
    have ih := shown_lek ds (by simpa only [lfs] using h)
    simp only [PyData.shown, wt]
    have := dict_text (PyData.shownKv ds)
    omega
theorem shown_les : ∀ ds : List PyData, lfss ds = true → piled (PyData.shownAll ds) ≤ wts ds
  | [], _ => by
    simp only [PyData.shownAll, wts]
    exact Nat.le_refl _
  | d :: ds, h => by
    have h' : lfs d = true ∧ lfss ds = true := by simpa only [lfss, Bool.and_eq_true] using h
    have h1 := shown_le d h'.1
    have h2 := shown_les ds h'.2
    simp only [PyData.shownAll, wts, piled_cons]
    omega
theorem shown_lek : ∀ ds : List (PyData × PyData), lfsk ds = true → piled (PyData.shownKv ds) ≤ wtk ds
  | [], _ => by
    simp only [PyData.shownKv, wtk]
    exact Nat.le_refl _
  | (c, d) :: ds, h => by
    have h' : (lfs c = true ∧ lfs d = true) ∧ lfsk ds = true := by simpa only [lfsk, Bool.and_eq_true] using h
    have h0 := shown_le c h'.1.1
    have h1 := shown_le d h'.1.2
    have h2 := shown_lek ds h'.2
    simp only [PyData.shownKv, wtk, piled_cons, colon_len]
    omega
end
mutual
theorem showable_of : ∀ d : PyData, lfs d = true → d.showable = true
  | .none, _ => by simp only [PyData.showable]
  | .bool b, _ => by simp only [PyData.showable]
  | .str b, _ => by simp only [PyData.showable]
  | .int i, h => by
    have h' : i.natAbs < 10 ^ 42 := of_decide_eq_true (by simpa only [lfs] using h)
    simp only [PyData.showable]
    by_cases hz : i.natAbs = 0
    · rw [hz]
      decide +kernel
    · have : i.natAbs.log2 < 140 := (Nat.log2_lt hz).mpr (Nat.lt_of_lt_of_le h' (by decide +kernel))
      exact decide_eq_true (by omega)
  | .list ds, h => by
    simp only [PyData.showable]
    exact showables_of ds (by simpa only [lfs] using h)
  | .tuple ds, h => by
    simp only [PyData.showable]
    exact showables_of ds (by simpa only [lfs] using h)
  | .dict ds, h => by
    simp only [PyData.showable]
    exact showablek_of ds (by simpa only [lfs] using h)
theorem showables_of : ∀ ds : List PyData, lfss ds = true → PyData.showableAll ds = true
  | [], _ => by simp only [PyData.showableAll]
  | d :: ds, h => by
    have h' : lfs d = true ∧ lfss ds = true := by simpa only [lfss, Bool.and_eq_true] using h
    simp only [PyData.showableAll, showable_of d h'.1, showables_of ds h'.2, Bool.and_self]
theorem showablek_of : ∀ ds : List (PyData × PyData), lfsk ds = true → PyData.showableKv ds = true
  | [], _ => by simp only [PyData.showableKv]
  | (c, d) :: ds, h => by
    have h' : (lfs c = true ∧ lfs d = true) ∧ lfsk ds = true := by simpa only [lfsk, Bool.and_eq_true] using h
    simp only [PyData.showableKv, showable_of c h'.1.1, showable_of d h'.1.2, showablek_of ds h'.2, Bool.and_self]
end
/-- all that repr wants -/
structure Nice (d : PyData) (n : Nat) : Prop where
  lf : lfs d = true
  nd : (!d.hasDict || bare d) = true
  dp : d.depth ≤ 10
  sz : wt d ≤ n
theorem Nice.ok {d : PyData} {n : Nat} (h : Nice d n) (hn : n ≤ 1000000) : okShow d = true := by
  have h1 := shown_le d h.lf
  have h2 := h.sz
  have h3 := h.dp
  unfold okShow
  rw [showable_of d h.lf, decide_eq_true (show d.depth ≤ 60 by omega), show szOk d.shown.length = true from decide_eq_true (by omega), noOb_or h.nd]
  rfl
theorem Nice.mono {d : PyData} {n m : Nat} (h : Nice d n) (hn : n ≤ m) : Nice d m := ⟨h.lf, h.nd, h.dp, Nat.le_trans h.sz hn⟩
/-! ### trees are nice -/
theorem wts_le {n : Nat} : ∀ {ds : List PyData}, (∀ d ∈ ds, wt d ≤ n) → wts ds ≤ (n + 2) * ds.length
  | [], _ => Nat.zero_le _
  | d :: ds, h => by
    have h1 := h d List.mem_cons_self
    have h2 := wts_le (ds := ds) fun d hd => h d (List.mem_cons_of_mem _ hd)
    simp only [wts, List.length_cons, Nat.mul_succ]
    omega
theorem lfss_of : ∀ {ds : List PyData}, (∀ d ∈ ds, lfs d = true) → lfss ds = true
  | [], _ => by simp only [lfss]
  | d :: ds, h => by
    simp only [lfss, h d List.mem_cons_self, lfss_of (ds := ds) fun d hd => h d (List.mem_cons_of_mem _ hd), Bool.and_self]
theorem nodict_of : ∀ {ds : List PyData}, (∀ d ∈ ds, d.hasDict = false) → PyData.hasDictAll ds = false
  | [], _ => by simp only [PyData.hasDictAll]
  | d :: ds, h => by
    simp only [PyData.hasDictAll, h d List.mem_cons_self, nodict_of (ds := ds) fun d hd => h d (List.mem_cons_of_mem _ hd), Bool.or_self]
theorem depth_of {n : Nat} : ∀ {ds : List PyData}, (∀ d ∈ ds, d.depth ≤ n) → PyData.depthAll ds ≤ n
  | [], _ => by simp only [PyData.depthAll]; exact Nat.zero_le _
  | d :: ds, h => by
    have h1 := h d List.mem_cons_self
    have h2 := depth_of (ds := ds) fun d hd => h d (List.mem_cons_of_mem _ hd)
    simp only [PyData.depthAll]
    omega
/-- no dict within: data by parts -/
structure Fine (d : PyData) (n k : Nat) : Prop where
  lf : lfs d = true
  nd : d.hasDict = false
  dp : d.depth ≤ k
  sz : wt d ≤ n
theorem Fine.nice {d : PyData} {n k : Nat} (h : Fine d n k) (hk : k ≤ 10) : Nice d n := ⟨h.lf, by rw [h.nd]; rfl, Nat.le_trans h.dp hk, h.sz⟩
theorem Fine.up {d : PyData} {n k n' k' : Nat} (h : Fine d n k) (hn : n ≤ n') (hk : k ≤ k') : Fine d n' k' := ⟨h.lf, h.nd, Nat.le_trans h.dp hk, Nat.le_trans h.sz hn⟩
theorem Fine.int {i : Int} (h : i.natAbs < 10 ^ 42) : Fine (.int i) 44 0 := ⟨by simp only [lfs]; exact decide_eq_true h, by simp only [PyData.hasDict], by simp only [PyData.depth]; exact Nat.le_refl _, by simp only [wt]; exact Nat.le_refl _⟩
theorem Fine.list {ds : List PyData} {n k : Nat} (h : ∀ d ∈ ds, Fine d n k) : Fine (.list ds) ((n + 2) * ds.length + 2) (k + 1) :=
  ⟨by simp only [lfs]; exact lfss_of fun d hd => (h d hd).lf, by simp only [PyData.hasDict]; exact nodict_of fun d hd => (h d hd).nd, by simp only [PyData.depth]; exact Nat.succ_le_succ (depth_of fun d hd => (h d hd).dp),
    by simp only [wt]; exact Nat.add_le_add_right (wts_le fun d hd => (h d hd).sz) 2⟩
theorem Fine.tuple {ds : List PyData} {n k : Nat} (h : ∀ d ∈ ds, Fine d n k) : Fine (.tuple ds) ((n + 2) * ds.length + 3) (k + 1) :=
  ⟨by simp only [lfs]; exact lfss_of fun d hd => (h d hd).lf, by simp only [PyData.hasDict]; exact nodict_of fun d hd => (h d hd).nd, by simp only [PyData.depth]; exact Nat.succ_le_succ (depth_of fun d hd => (h d hd).dp),
    by simp only [wt]; exact Nat.add_le_add_right (wts_le fun d hd => (h d hd).sz) 3⟩
theorem TreeOk.at_ {rows : List (Int × Int)} (h : TreeOk rows) {r : Int × Int} (hr : r ∈ rows) : 0 ≤ r.1 ∧ r.1 ≤ rows.length ∧ 1 ≤ r.2 ∧ r.2 ≤ 1000000 := by
  obtain ⟨k, e⟩ := List.getElem?_of_mem hr
  have := h k r e
  have hk := (List.getElem?_eq_some_iff.mp e).1
  omega
theorem tree_fine {rows : List (Int × Int)} (h : TreeOk rows) (hl : rows.length ≤ 100) : Fine (treeD rows) 10000 2 := by
  have hr : ∀ d ∈ rows.map rowD, Fine d 95 1 := fun d hd => by
    obtain ⟨r, hr, rfl⟩ := List.mem_map.mp hd
    have b := h.at_ hr
    refine Fine.tuple (n := 44) (k := 0) fun d hd => ?_
    rcases List.mem_cons.mp hd with rfl | hd
    · exact .int (Nat.lt_trans (show r.1.natAbs < 1000 by omega) (by decide +kernel))
    · rcases List.mem_cons.mp hd with rfl | hd
      · exact .int (Nat.lt_trans (show r.2.natAbs < 10000000 by omega) (by decide +kernel))
      · cases hd
  refine (Fine.tuple hr).up ?_ (Nat.le_refl _)
  rw [List.length_map]
  omega
end Pf

namespace Pf
open PySem PySem.Spec PyProof.Rows L2
/-! ### pure promises -/
section
variable {α : Type} {enc : α → List Sv} {ok : α → Prop} {out : α → PyData}
end
/-! ### loops by an invariant -/
theorem fromTo_at {lo : Int} {n i : Nat} {d : PyData} (h : (fromTo lo n)[i]? = some d) : i < n ∧ d = .int (lo + (i : Nat)) := by
  unfold fromTo at h
  have hi : i < n := by
    have := (List.getElem?_eq_some_iff.mp h).1
    simpa using this
  rw [List.getElem?_map, List.getElem?_range hi] at h
  exact ⟨hi, (Option.some.inj h).symm⟩
theorem big62_small {i : Int} (h0 : -1000000000 ≤ i) (h1 : i ≤ 1000000000) : big62 i = true := by
  unfold big62
  rw [decide_eq_true (show -(2 ^ 62) ≤ i by omega), decide_eq_true (show i < 2 ^ 62 by omega)]
  rfl
/-! ### two tagged lists behind the rest -/
section
variable {μ : Mu} {x y z : MObj}
theorem g0 : (μ ++ [x, y])[μ.length]? = some x := by
  rw [List.getElem?_append_right (Nat.le_refl _), Nat.sub_self]
  rfl
theorem g1 : (μ ++ [x, y])[μ.length + 1]? = some y := by
  rw [List.getElem?_append_right (Nat.le_succ _), show μ.length.succ - μ.length = 1 by omega]
  rfl
theorem s0 : (μ ++ [x, y]).set μ.length z = μ ++ [z, y] := by
  rw [List.set_append_right _ _ (Nat.le_refl _), Nat.sub_self]
  rfl
theorem s1 : (μ ++ [x, y]).set (μ.length + 1) z = μ ++ [x, z] := by
  rw [List.set_append_right _ _ (Nat.le_succ _), show μ.length.succ - μ.length = 1 by omega]
  rfl
theorem a0 : (μ ++ [x])[μ.length]? = some x := by
  rw [List.getElem?_append_right (Nat.le_refl _), Nat.sub_self]
  rfl
theorem b0 : (μ ++ [x]).set μ.length z = μ ++ [z] := by
  rw [List.set_append_right _ _ (Nat.le_refl _), Nat.sub_self]
  rfl
end
/-! ### marks, ways, distances -/
def mkD (k : Nat) : PyData := .int (k : Int)
def par (rows : List (Int × Int)) (m : Nat) : Nat := ((rows[m - 1]?).getD (0, 0)).1.toNat
def lnR (rows : List (Int × Int)) (m : Nat) : Int := ((rows[m - 1]?).getD (0, 0)).2
theorem row_of {rows : List (Int × Int)} (ok : TreeOk rows) {m : Nat} (h0 : 0 < m) (h1 : m ≤ rows.length) : ∃ r, rows[m - 1]? = some r ∧ r.1 = (par rows m : Nat) ∧ r.2 = lnR rows m ∧ par rows m < m ∧ 1 ≤ lnR rows m ∧ lnR rows m ≤ 1000000 := by
  have hm : m - 1 < rows.length := by omega
  have e : rows[m - 1]? = some rows[m - 1] := List.getElem?_eq_getElem hm
  have b := ok _ _ e
  refine ⟨_, e, ?_, ?_, ?_, ?_, ?_⟩
  · unfold par
    rw [e]
    show _ = ((rows[m - 1].1.toNat : Nat) : Int)
    omega
  · unfold lnR
    rw [e]
    rfl
  · unfold par
    rw [e]
    show rows[m - 1].1.toNat < m
    omega
  · unfold lnR
    rw [e]
    exact b.2.2.1
  · unfold lnR
    rw [e]
    exact b.2.2.2
def wayF (rows : List (Int × Int)) : Nat → Nat → Nat → List Nat
  | 0, a, _ => [a]
  | n + 1, a, b => if a = b then [a] else if b < a then a :: wayF rows n (par rows a) b else wayF rows n a (par rows b) ++ [b]
def distF (rows : List (Int × Int)) : Nat → Nat → Nat → Int
  | 0, _, _ => 0
  | n + 1, a, b => if a = b then 0 else if b < a then lnR rows a + distF rows n (par rows a) b else distF rows n a (par rows b) + lnR rows b
def way (rows : List (Int × Int)) (a b : Nat) : List Nat := wayF rows (a + b + 1) a b
def dist (rows : List (Int × Int)) (a b : Nat) : Int := distF rows (a + b + 1) a b
section
variable {rows : List (Int × Int)} (ok : TreeOk rows)
include ok
theorem distF_dist : ∀ (n a b : Nat), a + b < n → a ≤ rows.length → b ≤ rows.length → distF rows n a b = dist rows a b := by
  have key : ∀ (n m a b : Nat), a + b < n → a + b < m → a ≤ rows.length → b ≤ rows.length → distF rows n a b = distF rows m a b := by
    intro n
    induction n with
    | zero => intro m a b h; omega
    | succ n ih =>
      intro m a b h h2 ha hb
      cases m with
      | zero => omega
      | succ m =>
        unfold distF
        by_cases e : a = b
        · rw [if_pos e, if_pos e]
        · rw [if_neg e, if_neg e]
          by_cases l : b < a
          · rw [if_pos l, if_pos l]
            obtain ⟨r, _, _, _, hp, _⟩ := row_of ok (m := a) (by omega) ha
            rw [ih m (par rows a) b (by omega) (by omega) (by omega) hb]
          · rw [if_neg l, if_neg l]
            obtain ⟨r, _, _, _, hp, _⟩ := row_of ok (m := b) (by omega) hb
            rw [ih m a (par rows b) (by omega) (by omega) ha (by omega)]
  exact fun n a b h ha hb => key n _ a b h (Nat.lt_succ_self _) ha hb
theorem dist_eq {a : Nat} : dist rows a a = 0 := by
  unfold dist distF
  rw [if_pos rfl]
theorem dist_gt {a b : Nat} (h : b < a) (ha : a ≤ rows.length) : dist rows a b = lnR rows a + dist rows (par rows a) b := by
  obtain ⟨r, _, _, _, hp, _⟩ := row_of ok (m := a) (by omega) ha
  rw [← distF_dist ok (a + b) (par rows a) b (by omega) (by omega) (by omega)]
  unfold dist
  rw [distF, if_neg (by omega), if_pos h]
theorem dist_lt {a b : Nat} (h : a < b) (hb : b ≤ rows.length) : dist rows a b = dist rows a (par rows b) + lnR rows b := by
  obtain ⟨r, _, _, _, hp, _⟩ := row_of ok (m := b) (by omega) hb
  rw [← distF_dist ok (a + b) a (par rows b) (by omega) (by omega) (by omega)]
  unfold dist
  rw [distF, if_neg (by omega), if_neg (by omega)]
theorem dist_comm : ∀ (n a b : Nat), a + b < n → a ≤ rows.length → b ≤ rows.length → dist rows a b = dist rows b a := by
  intro n
  induction n with
  | zero => intro a b h; omega
  | succ n ih =>
    intro a b h ha hb
    rcases Nat.lt_trichotomy a b with l | l | l
    · obtain ⟨r, _, _, _, hp, _⟩ := row_of ok (m := b) (by omega) hb
      rw [dist_lt ok l hb, dist_gt ok l hb, ih a (par rows b) (by omega) ha (by omega), Int.add_comm]
    · rw [l]
    · obtain ⟨r, _, _, _, hp, _⟩ := row_of ok (m := a) (by omega) ha
      rw [dist_lt ok l ha, dist_gt ok l ha, ih (par rows a) b (by omega) (by omega) hb, Int.add_comm]
theorem dist_bound : ∀ (n a b : Nat), a + b < n → a ≤ rows.length → b ≤ rows.length → 0 ≤ dist rows a b ∧ dist rows a b ≤ 1000000 * (a + b) := by
  intro n
  induction n with
  | zero => intro a b h; omega
  | succ n ih =>
    intro a b h ha hb
    rcases Nat.lt_trichotomy a b with l | l | l
    · obtain ⟨r, _, _, _, hp, l1, l2⟩ := row_of ok (m := b) (by omega) hb
      have := ih a (par rows b) (by omega) ha (by omega)
      rw [dist_lt ok l hb]
      omega
    · rw [l, dist_eq ok]
      omega
    · obtain ⟨r, _, _, _, hp, l1, l2⟩ := row_of ok (m := a) (by omega) ha
      have := ih (par rows a) b (by omega) (by omega) hb
      rw [dist_gt ok l ha]
      omega
end
/-! ### comprehensions over data -/
theorem mkl_dat (ds : List PyData) (μ : Mu) : mkl false (ds.map Sv.dat) μ = some (.ok (.dat (.list ds)) μ) := by
  simp only [mkl, dats_map, Option.map]
theorem atI_map {α β : Type} {xs : List α} {f : α → β} {i : Int} {x : α} (h : atI xs i = some x) : atI (xs.map f) i = some (f x) := by
  unfold atI at h ⊢
  rw [List.length_map]
  cases q : ixN xs.length i with
  | none =>
    rw [q] at h
    cases h
  | some j =>
    rw [q] at h
    show (xs.map f)[j]? = _
    have h' : xs[j]? = some x := h
    rw [List.getElem?_map, h']
    rfl
theorem atI_range {α : Type} {n k : Nat} (f : Nat → α) (h : k < n) : atI ((List.range n).map f) (k : Int) = some (f k) := by
  have : ((List.range n).map f)[k]? = some (f k) := by
    rw [List.getElem?_map, List.getElem?_range h]
    rfl
  exact atI_nat this
/-! ### pairs on a way -/
def pairs : List Nat → List (Nat × Nat)
  | a :: b :: r => (a, b) :: pairs (b :: r)
  | _ => []
theorem call1_at {Fm : List Sv → M Sv} {F : Rho → M Sv} {ρ : Rho} {μ μ1 : Mu} {a : Sv} (h : F ρ μ = some (.ok a μ1)) : callF Fm 1 (argC F argN) ρ μ = Fm [a] μ1 := by
  unfold callF argC argN
  simp only [M.bind, ret_at, h]
  rfl
end Pf

namespace Pf
open PySem PySem.Spec PyProof.Rows L2 HT
/-! ### t[::-1] of a tuple -/
section
variable {prog : Program} {w : World} {A : Around} {E : Value → Shared → Prop} {s : Shared}
theorem adj_rev (n : Nat) : Builtin.Slice.sliceAdjust none none (-1) (n : Int) = ((n : Int) - 1, -1) := by
  unfold Builtin.Slice.sliceAdjust
  simp
theorem plc_rev (n : Nat) : Builtin.Slice.slicePlaces ((n : Int) - 1) (-1) (-1) = n := by
  unfold Builtin.Slice.slicePlaces
  simp
  try omega
theorem apl_rev {sl : Addr} {n : Nat} {t : Tok} {Q : Int × Int × Nat → Shared → Prop} (hs : s.heap.IsSliceOf sl .none .none (.int (-1) t)) (h : Q ((n : Int) - 1, -1, n) s) : wpAny (model prog w) A (Builtin.Slice.sliceApplied (.ref sl) (pure (n : Int))) Q E s := by
  obtain ⟨ob, e1, e2, e3⟩ := id hs
  unfold Builtin.Slice.sliceApplied Builtin.Slice.sliceFields
  refine wpAny_bind (wpAny_bind (wpAny_field e1 e3 (x := .none) rfl (wpAny_bind (wpAny_field e1 e3 (x := .none) rfl (wpAny_bind (wpAny_field e1 e3 (x := .int (-1) t) rfl (wpAny_pure ?_)))))))
  refine wpAny_bind (slicePart_ (.int (-1) t) ?_)
  show wpAny _ _ (if ((-1 : Int) == 0) = true then _ else _) _ _ s
  rw [if_neg (by decide)]
  refine wpAny_bind (slicePart_ .none (wpAny_bind (slicePart_ .none (wpAny_bind (wpAny_pure ?_)))))
  show wpAny _ _ (match Builtin.Slice.sliceAdjust none none (-1) (n : Int) with | (lo, hi) => pure (lo, (-1 : Int), Builtin.Slice.slicePlaces lo hi (-1))) _ _ s
  rw [adj_rev]
  show wpAny _ _ (pure ((n : Int) - 1, (-1 : Int), Builtin.Slice.slicePlaces ((n : Int) - 1) (-1) (-1))) _ _ s
  rw [plc_rev]
  exact wpAny_pure h
theorem fm_congr {α β : Type} {f g : α → Option β} : ∀ {l : List α}, (∀ k ∈ l, f k = g k) → l.filterMap f = l.filterMap g
  | [], _ => rfl
  | k :: l, h => by
    rw [List.filterMap_cons, List.filterMap_cons, h k List.mem_cons_self, fm_congr (l := l) fun j hj => h j (List.mem_cons_of_mem _ hj)]
theorem pick_rev (xs : Array Value) : ((List.range xs.size).filterMap fun (k : Nat) => xs[(((xs.size : Int) - 1) + (k : Int) * (-1)).toNat]?).toArray = xs.toList.reverse.toArray := by
  have := PySem.W.krv_all xs
  rw [← this, ← List.filterMap_reverse, ← PySem.W.krv_range, List.filterMap_map]
  congr 1
  refine fm_congr fun k hk => ?_
  have hk' := List.mem_range.mp hk
  show _ = xs[xs.size - 1 - k]?
  congr 1
  omega
theorem get_rev {t sl : Addr} {items : Array Value} {tk : Tok} {Q : Value → Shared → Prop} (ht : IsTup s.heap t items) (hs : s.heap.IsSliceOf sl .none .none (.int (-1) tk))
    (h : Q (.ref s.heap.objs.size) { s with heap := s.heap.push { cls := .type "tuple", data := .seq items.toList.reverse.toArray } }) (hsz : items.size ≤ sizeLine) : wpAny (model prog w) A (getItem (.ref t) (.ref sl)) Q E s := by
  have hdrop : sizeOk (.seq items.toList.reverse.toArray) := by
    show items.toList.reverse.toArray.size ≤ sizeLine
    rw [List.size_toArray, List.length_reverse, Array.length_toList]
    exact hsz
  obtain ⟨ob, e1, e2, e3⟩ := id hs
  have ty : s.TypeIs (.ref sl) "slice" := ⟨ob, e1, e2⟩
  unfold getItem
  try with_reducible refine wpAny_holding ?_
  first
    | refine wpAny_bind (wpAny_pure ?_)
    | skip
  refine wpAny_bind (wpAny_sequenceKey ht.typeIs (by decide) (wpAny_bind (wpAny_callSpecial?_slot (name := Str.ofString "__getitem__") ht.typeIs PyProof.Rows.slot_tuple_getitem (wpAny_call_entry PyProof.Rows.slot_tuple_getitem ht.typeIs entry_tuple_getitem ?_ (args_tuple_getitem _ _)))))
  show wpAny _ _ (Builtin.Tuple.tupleItemsOf (.ref t) >>= _) _ _ s
  refine wpAny_bind (tupleItemsOf_ ht (wpAny_bind (wpAny_typeOf ty ?_)))
  rw [if_pos (by decide)]
  refine wpAny_bind (apl_rev hs ?_)
  have hno : ¬ ((((items.size : Int) - 1) == 0 && (-1 : Int) == 1 && items.size == items.size) = true) := by simp
  show wpAny _ _ (if (((items.size : Int) - 1) == 0 && (-1 : Int) == 1 && items.size == items.size) = true then _ else _) _ _ s
  rw [if_neg hno, pick_rev items]
  first
    | exact wpAny_bind (m := Builtin.Tuple.tupleExact _) (wpAny_newObj_type (wpAny_pure ⟨_, rfl, wpAny_pure h⟩) hdrop)
    | exact wpAny_bind (m := Builtin.Tuple.tupleExact _) (wpAny_newObj_type (wpAny_bind (wpAny_pure (wpAny_pure ⟨_, rfl, wpAny_pure h⟩))) hdrop)
    | exact wpAny_bind (wpAny_bind (m := Builtin.Tuple.tupleExact _) (wpAny_newObj_type (wpAny_pure (wpAny_pure ⟨_, rfl, wpAny_pure h⟩)) hdrop))
    | exact wpAny_bind (wpAny_bind (m := Builtin.Tuple.tupleExact _) (wpAny_newObj_type (wpAny_pure ⟨_, rfl, wpAny_pure h⟩) hdrop))
end
section
variable {X : Cx} {E : XK} {a b c e : Expr} {Fa Fb Fc : Rho → M Sv} {pos p : Pos}
def tRevT (K : PySem.W.Frag) (te : TE) : TE := fun σ H Q => te σ H fun x H1 => ∃ a xs, x = .ref a ∧ SqT K H1 a xs ∧ ∀ p, H1 p = none → Q (.ref p) (upd H1 p (.tup xs.reverse))
theorem pe_revT {te : TE} {k : Nat} {p1 p2 p3 : Pos} (he : PE X e te) : PE X (.Subscript e (.Slice none none (some (.UnaryOp .USub (.Constant (.int 1) k p1) p2)) p3) pos) (tRevT X.K te) := by
  constructor
  intro pins s σ H Q I h
  refine Subscript_ (thn (he.run pins s σ H _ I h) fun v s1 ⟨x, H1, I1, r1, a, xs, ex, hx, q⟩ => ?_)
  subst ex
  cases r1
  have step : PO X (some (.UnaryOp .USub (.Constant (.int 1) k p1) p2)) (tPart (tUn (rU fun i => .int (-i)) (tC (.int 1)))) := po_some (pe_un un_neg pe_int)
  refine wpAny_Slice (thn (po_none.run pins s1 σ H1 (fun o Hx => o = none ∧ Hx = H1) I1 ⟨rfl, rfl⟩) fun vl s2 ⟨l, H2, I2, pl, z1, z2⟩ => ?_)
  subst z1 z2
  refine thn (po_none.run pins s2 σ H2 (fun o Hx => o = none ∧ Hx = H2) I2 ⟨rfl, rfl⟩) fun vu s3 ⟨u, H3, I3, pu, z1, z2⟩ => ?_
  subst z1 z2
  refine thn (step.run pins s3 σ H3 (fun o Hx => o = some (-1) ∧ Hx = H3) I3 ⟨1, rfl, -1, rfl, rfl, rfl⟩) fun vs s4 ⟨o, H4, I4, ps, z1, z2⟩ => ?_
  subst z1 z2
  have I5 : Inv X pins σ H4 { s4 with heap := s4.heap.push { cls := .type "slice", data := .fields #[vl, vu, vs] } } := I4.kept (t' := s4.toks) fun b ob q => Heap.get?_push_of_some _ q
  obtain ⟨its, r, ht, hz⟩ := I5.tuple hx
  have ln := r.length
  show wpAny (model X.prog X.w) X.A (subscriptTail e (.Slice none none (some (.UnaryOp .USub (.Constant (.int 1) k p1) p2)) p3) (.ref a) (.ref s4.heap.objs.size)) (EP X pins σ Q) X.xe { s4 with heap := s4.heap.push { cls := .type "slice", data := .fields #[vl, vu, vs] } }
  cases pl
  cases pu
  cases ps
  refine tail_any (ops := [.ref a, .ref s4.heap.objs.size]) ht.typeIs PyProof.Rows.slot_tuple_getitem.lookup ?_ (by with_unfolding_all rfl)
  refine get_rev ht (Heap.IsSliceOf.new _ _ _ _) ?_ (by rw [List.size_toArray]; omega)
  exact ⟨.ref _, _, I5.laid (t' := s4.toks) (o := .tup xs.reverse) (fun b ob q => Heap.get?_push_of_some _ q) (Nat.le_refl _) ⟨by rw [List.length_reverse]; exact hz, _, r.reverse, IsTup.new _ _⟩, rfl, q _ (I5.hok.fresh (Nat.le_refl _))⟩
def revTV (Fa : Rho → M Sv) (ρ : Rho) : M Sv := (Fa ρ).bind fun s => match s with
  | .dat (.tuple ds) => M.ret (.dat (.tuple ds.reverse))
  | _ => M.fail
theorem x_revT {k : Nat} {p1 p2 p3 : Pos} (he : PX X E a Fa) : PX X E (.Subscript a (.Slice none none (some (.UnaryOp .USub (.Constant (.int 1) k p1) p2)) p3) pos) (revTV Fa) := pe_weak (pe_revT he) fun σ H Q ⟨W, ρ, μ, r, h, e, q⟩ => by
  refine tX_bind h e q fun v s W1 H1 μ1 g1 h1 rs e1 q1 => ?_
  split at e1
  · cases e1
    cases rs with
    | tup h4 r4 => exact ⟨_, _, rfl, seqT_mono h1.rel.sub h4, fun p hp => dq_tup h1.rel hp r4.reverse rfl q1⟩
  · cases e1
/-! ### int(a bool) -/
def bInt (ss : List Sv) : M Sv := match ss with
  | [.dat (.bool b)] => M.ret (.dat (.int (if b = true then 1 else 0)))
  | _ => M.fail
theorem b_int : CallR X (.type "int") (rC X.K E bInt) := by
  intro pins s σ H xs us Q I rv ⟨W, μ, ss, r, R, rs, e, q⟩
  unfold bInt at e
  split at e
  · cases e
    obtain ⟨x, rfl, h⟩ := rels1 rs
    obtain ⟨u, rfl, rx⟩ := vals1 rv
    cases h
    cases (show u = Value.bool _ from rx)
    exact call_int_bool ⟨.int _, H, I.tok _, ⟨_, rfl⟩, q _ _ (Grow.refl _ _ _) R _ (.int _)⟩
  · cases e
/-! ### dicts -/
theorem x_dict0 : PX X E (.Dict [] [] pos) (con (.dict [])) := pe_weak pe_dnewK fun σ H Q ⟨W, ρ, μ, r, h, e, q⟩ p hp => by
  cases e
  exact q _ _ (grow_share h.rel hp) (h.rel.share hp) _ (.dct upd_same .nil)
theorem x_dict1 {x : Str} {i : Int} {j1 j2 : Nat} {p1 p2 : Pos} : PX X E (.Dict [some (.Constant (.str x) j1 p1)] [.Constant (.int i) j2 p2] pos) (con (.dict [(.str x, .int i)])) :=
  pe_weak (pe_disp (pps_cons pe_str pe_int pps_nil) rfl rfl (by simp) (show 1 ≤ 15 by decide)) fun σ H Q ⟨W, ρ, μ, r, h, e, q⟩ p hp => by
    cases e
    refine ⟨upd_same, [(.inr x, .int i)], rfl, show 1 ≤ 15 by decide, ?_⟩
    have : upd (upd H p (.dK [])) p (.dK (mergeK [] [(.inr x, .int i)])) = upd H p (.dK [(.inr x, .int i)]) := by
      funext b
      by_cases hb : b = p
      · rw [hb, upd_same, upd_same]
        rfl
      · rw [upd_ne hb, upd_ne hb, upd_ne hb]
    rw [this]
    exact q _ _ (grow_share h.rel hp) (h.rel.share hp) _ (.dct upd_same (.cons (.str x) (.int i) .nil))
/-! ### enumerate(a tuple) -/
def Itet (K : PySem.W.Frag) (a : Addr) : It :=
  ⟨fun i H => ∃ (xs : List V) (x : V), SqT K H a xs ∧ xs[i]? = some x,
    fun i H v H' => ∃ T x, v = .ref T ∧ H T = none ∧ H' = upd H T (.tup [.int (i : Nat), x]) ∧ ∀ ys, SqT K H a ys → ys[i]? = some x,
    fun i H => ∃ ys : List V, SqT K H a ys ∧ ys.length ≤ i⟩
theorem turn_enumT {P : Program} {w : World} {K : PySem.W.Frag} {elts : List Expr} {kk : Nat} {tpos : Pos} (a e it : Addr) (n1 : e ≠ it) (n2 : a ≠ it) (n3 : e ≠ a) :
    Turn P w K (.Tuple elts kk tpos) (Itet K a) [e, it] e (fun i h => (∃ old, IsEnum h e it ((i : Nat) : Int) old) ∧ h.IsTupleIter it a i) where
  mem := by simp
  obj := fun i h ⟨⟨old, he⟩, ⟨o, ho, hc, hd⟩⟩ b hb => by
    rcases List.mem_cons.mp hb with z | z
    · rw [z]
      exact ⟨_, he, fun v q => nomatch q⟩
    · rw [List.mem_singleton.mp z]
      exact ⟨o, ho, fun v q => by rw [hd] at q; cases q⟩
  keep := fun i h h' ⟨⟨old, he⟩, hi⟩ k => ⟨⟨old, k e (by simp) _ he⟩, hi.at fun o q => k it (by simp) o q⟩
  item := by
    intro X hP hw hK hc i pins s σ H E I hf ⟨⟨old, he⟩, hit⟩ ⟨xs, x, hq, hx⟩
    subst hP hw hK
    obtain ⟨its, rv, p, hz⟩ := I.tuple hq
    obtain ⟨u, hu, ru⟩ := rv.get hx
    have hel : e < s.heap.objs.size := Heap.lt_size he
    have hil : it < s.heap.objs.size := let ⟨_, q, _⟩ := hit; Heap.lt_size q
    have hh : X.A.in1.handled = none := I.ok.hd hc
    have D := Draws.tuple (prog := X.prog) (w := X.w) (A := X.A.in1) hh it a n2 its.toArray
    have hi : i < its.toArray.size := by
      rw [List.size_toArray]
      exact (List.getElem?_eq_some_iff.mp hu).1
    refine wpAny_pyNext_enum_itemD D he ⟨hit, p⟩ hi n1 (by simp [n1, n3]) fun y h' tk hy ho ⟨hit', _⟩ hT hsz hk => ?_
    have ey : y = u := by
      have z : its.toArray[i]? = some u := by simpa using hu
      exact Option.some.inj (hy.symm.trans z)
    subst ey
    refine ⟨_, rfl, wpAny_letOwnedTupleGo_enum (s := { s with heap := h', toks := tk + 1 }) ho fun h'' he' sb => ?_⟩
    have hT2 : h''.get? s.heap.objs.size = some { cls := .type "tuple", data := .seq #[.int i tk, y] } := (sb.2 _ (Nat.ne_of_gt hel)).trans hT
    have new : ObjOk X.prog X.w (upd H s.heap.objs.size (.tup [.int (i : Nat), x])) h'' s.heap.objs.size (.tup [.int (i : Nat), x]) := by
      refine ⟨?_, [.int i tk, y], .cons ⟨_, rfl⟩ (.cons ru .nil), ⟨_, hT2, rfl, _, rfl⟩⟩
      show 2 ≤ sizeLine
      decide
    have I1 : Inv X pins σ (upd H s.heap.objs.size (.tup [.int (i : Nat), x])) { s with heap := h'', toks := tk + 1 } := by
      refine I.turnedNew (ch := [e, it]) (fun b ob hb q => ?_) hf (Nat.le_refl _) new
      have b1 : b ≠ e := fun z => hb (by simp [z])
      have b2 : b ≠ it := fun z => hb (by simp [z])
      exact (sb.2 b b1).trans (hk b ob b1 b2 q)
    refine ⟨.ref s.heap.objs.size, _, I1, rfl, ⟨_, x, rfl, I.hok.fresh (Nat.le_refl _), rfl, fun ys hy => by rw [I.tuple_inj hy hq]; exact hx⟩, ⟨⟨y, ?_⟩, hit'.at fun o q => (sb.2 it (Ne.symm n1)).trans q⟩, fun b hb => ?_⟩
    · rw [show ((i + 1 : Nat) : Int) = (i : Int) + 1 from by omega]
      exact he'
    · have hb' : b < s.heap.objs.size := by
        rcases List.mem_cons.mp hb with z | z
        · rw [z]
          exact hel
        · rw [List.mem_singleton.mp z]
          exact hil
      rw [upd_ne (Nat.ne_of_lt hb')]
      exact (hf b hb).1
  done := by
    intro X hP hw hK hc i pins s σ H E I hf ⟨⟨old, he⟩, hit⟩ ⟨xs, hq, hx⟩
    subst hP hw hK
    obtain ⟨its, rv, p, hz⟩ := I.tuple hq
    obtain ⟨f0, f1, f2, f3, f4, f5⟩ := hf it (by simp)
    have hl := rv.length
    have hT : s.TypeIs (.ref e) "enumerate" := ⟨_, he, rfl⟩
    unfold pyNext
    refine wpAny_bind (wpAny_attempt (wpAny_callSpecial?_slot (name := Str.ofString "__next__") hT F.slot_enumerate_next (wpAny_call_entry F.slot_enumerate_next hT F.entry_enumerate_next ?_ (F.args_enumerate_next_1 _))))
    show wpAny _ _ (field (.ref e) 2 >>= _) _ _ _
    refine wpAny_bind (wpAny_field he rfl (x := .ref it) rfl (wpAny_bind (wpAny_nextOf_tuple_end (I.ok.hd hc) hit p (by simp; omega) fun h' y eb ⟨o, ho, hcl⟩ => ?_)))
    exact wpAny_bind (wpAny_isInstance (T := "StopIteration") (b := true) ⟨o, ho, hcl⟩ isSubtype_stop (wpAny_pure ⟨rfl, I.turned (t' := s.toks) (fun b o hb q => eb b o hb q) f0 f1 f3 f4 f5⟩))
  self := fun A i s Q E ⟨⟨_, he⟩, _⟩ h => wpAny_pyIter_enum he h
end
set_option maxHeartbeats 1000000 in
theorem meets_enumT (t : Addr) (items : Array Value) : Meets (Builtin.«enumerate.__new__» ⟨[.type "enumerate", .ref t], []⟩) (fun _ R s => s.heap.IsTuple t items ∧
      R (.ok (.ret (.ref (s.heap.push { cls := .type "tuple_iterator", data := .fields #[.ref t, .int 0 0] }).objs.size)))
        { s with heap := (s.heap.push { cls := .type "tuple_iterator", data := .fields #[.ref t, .int 0 0] }).push { cls := .type "enumerate", data := .fields #[.none, .bool false, .ref s.heap.objs.size, rawInt 0, .none, .none] } }) :=
  .of_wp fun prog w A R s h => by
    obtain ⟨hp, g, d, tk, os⟩ := s
    obtain ⟨h1, h⟩ := h
    have sub := sub_enumerate
    have B := begins_tuple t items
    have q1 : ∀ {A' : Around} {E : Value → Shared → Prop} {Q : Value → Shared → Prop}, Q (.ref hp.objs.size) ⟨hp.push { cls := .type "tuple_iterator", data := .fields #[.ref t, .int 0 0] }, g, d, tk, os⟩ → wpAny (model prog w) A' (pyIter (.ref t)) Q E ⟨hp, g, d, tk, os⟩ :=
      fun q => B.iter prog w _ _ ⟨hp, g, d, tk, os⟩ _ h1 q
    wp_walk using q1
    refine wpAny_stack_any fun st => wpAny_pure ?_
    split
    · rename_i c _ _ _ _ _
      cases (c == Value.type "enumerate")
      · (wp_walk using q1); exact ⟨_, rfl, h⟩
      · (wp_walk using q1); exact ⟨_, rfl, h⟩
    · (wp_walk using q1); exact ⟨_, rfl, h⟩
section
variable {prog : Program} {w : World} {A : Around} {E : Value → Shared → Prop} {s : Shared}
theorem call_enumT {t : Addr} {items : Array Value} {Q : Value → Shared → Prop} (h1 : s.heap.IsTuple t items)
    (h : ∀ h', IsEnum h' (s.heap.objs.size + 1) s.heap.objs.size 0 .none → h'.IsTupleIter s.heap.objs.size t 0 → (∀ b o, s.heap.get? b = some o → h'.get? b = some o) → Q (.ref (s.heap.objs.size + 1)) { s with heap := h' }) :
    wpAny (model prog w) A (call (.type "enumerate") [.ref t]) Q E s := by
  have M := meets_enumT t items
  have C := @callType_new
  refine callType_new F.called_enumerate (by decide) (F.typeCall_enumerate_1 _) (F.newCall_enumerate_1 _) (fun obj => F.args_object_init_2 obj _) F.entry_enumerate_new M ⟨h1, ?_⟩
  have hz : (s.heap.push { cls := .type "tuple_iterator", data := .fields #[.ref t, .int 0 0] }).objs.size = s.heap.objs.size + 1 := Heap.size_push ..
  show _ ∧ _
  rw [hz]
  have he : IsEnum ((s.heap.push { cls := .type "tuple_iterator", data := .fields #[.ref t, .int 0 0] }).push { cls := .type "enumerate", data := .fields #[.none, .bool false, .ref s.heap.objs.size, rawInt 0, .none, .none] }) (s.heap.objs.size + 1) s.heap.objs.size 0 .none := by
    have z := Heap.get?_push_size (s.heap.push { cls := .type "tuple_iterator", data := .fields #[.ref t, .int 0 0] }) (o := { cls := .type "enumerate", data := .fields #[.none, .bool false, .ref s.heap.objs.size, rawInt 0, .none, .none] }) rfl
    rw [hz] at z
    exact z
  exact ⟨⟨_, he, rfl⟩, h _ he ⟨_, Heap.get?_push_of_some _ (Heap.get?_push_size _ rfl), rfl, rfl⟩ fun b o x => Heap.get?_push_of_some _ (Heap.get?_push_of_some _ x)⟩
end
section
variable {X : Cx} {E : XK} {a b c e : Expr} {Fa Fb Fc : Rho → M Sv} {pos p tpos : Pos}
def iEnumT (K : PySem.W.Frag) (ta : TA) : TI := fun σ H R => ta σ H fun vs H1 => ∃ a xs, vs = [.ref a] ∧ SqT K H1 a xs ∧ R (Itet K a) H1
theorem pi_enumT {ta : TA} {elts : List Expr} {kk : Nat} (hg : Gl X "enumerate") (hm : X.mg "enumerate" = none) (ha : PA X [e] ta) (hs : starEach [e] X.env = [(false, eval e X.env)] := by rfl) :
    PI X (.Tuple elts kk tpos) (.Call (.Name "enumerate" p) [e] [] pos) (iEnumT X.K ta) := by
  constructor
  intro pins s σ H R I h
  refine Call_ (ld_blt I hg hm boot_enumerate (PyProof.Rows.callWith_type1 (thn (ha.run pos pins s σ H _ I h) fun us s1 ⟨vs, H1, I1, r1, a, xs, ex, hq, q⟩ => ?_) hs rfl))
  subst ex
  obtain ⟨u, rfl, rx⟩ := vals1 r1
  cases rx
  obtain ⟨its, rv, p', hz⟩ := I1.tuple hq
  have hal : a < s1.heap.objs.size := let ⟨_, z, _⟩ := p'; Heap.lt_size z
  refine call_enumT p' fun h' he hit hk => wpAny_pyIter_enum he ?_
  refine ⟨s1.heap.objs.size + 1, [s1.heap.objs.size + 1, s1.heap.objs.size], _, _, H1, rfl, I1.kept (t' := s1.toks) hk, turn_enumT a (s1.heap.objs.size + 1) s1.heap.objs.size (Nat.succ_ne_self _) (Nat.ne_of_lt hal) (Nat.ne_of_gt (Nat.lt_succ_of_lt hal)), ⟨⟨.none, he⟩, hit⟩, fun b hb => ?_, q⟩
  have hle : s1.heap.objs.size ≤ b := by
    rcases List.mem_cons.mp hb with z | z
    · rw [z]
      exact Nat.le_succ _
    · rw [List.mem_singleton.mp z]
      exact Nat.le_refl _
  exact I1.fpOk hle (I1.hok.fresh hle)
def enuD (ds : List PyData) : List PyData := zipD (fromTo 0 ds.length) ds
theorem enu_len {ds : List PyData} : (enuD ds).length = ds.length := by
  unfold enuD zipD fromTo
  rw [List.length_zipWith, List.length_map, List.length_range, Nat.min_self]
theorem enu_at {ds : List PyData} {i : Nat} {d : PyData} (h : (enuD ds)[i]? = some d) : ∃ x, ds[i]? = some x ∧ d = .tuple [.int (i : Nat), x] := by
  obtain ⟨d1, d2, e1, e2, rfl⟩ := zip_at h
  obtain ⟨_, rfl⟩ := fromTo_at e1
  exact ⟨d2, e2, by rw [Int.zero_add]⟩
theorem wk_enu {K : PySem.W.Frag} {W : Wd} {a : Addr} {vs : List V} {ds : List PyData} (h : SqT K W.S a vs) (r : Dqs K W.S vs ds) : Wk K (Itet K a) W (enuD ds) where
  go := fun i d W1 H μ g R e => by
    obtain ⟨y, e2, rfl⟩ := enu_at e
    obtain ⟨v, a1, _⟩ := r.getD e2
    exact ⟨vs, v, seqT_mono R.sub (seqT_mono g h), a1⟩
  yld := fun i d W1 H μ x H' g R e y => by
    obtain ⟨z, e2, rfl⟩ := enu_at e
    obtain ⟨T, x1, rfl, nT, rfl, f1⟩ := y
    obtain ⟨v, a1, q1⟩ := r.getD e2
    have z1 := f1 vs (seqT_mono R.sub (seqT_mono g h))
    rw [a1] at z1
    cases z1
    exact pair_new R nT (.int _) (Dq.mono g q1)
  stop := fun i W1 H μ g R e => ⟨vs, seqT_mono R.sub (seqT_mono g h), by rw [r.len, ← enu_len]; exact e⟩
def enuV (Fa : Rho → M Sv) (ρ : Rho) : M (List PyData) := (Fa ρ).bind fun s => match s with
  | .dat (.tuple ds) => M.ret (enuD ds)
  | _ => M.fail
theorem i_enu {elts : List Expr} {kk : Nat} (hc : X.calm = true) (hm : X.mg "enumerate" = none) (ha : PX X E a Fa) (hg : Gl X "enumerate" := by rfl) (hs : starEach [a] X.env = (false, eval a X.env) :: starEach [] X.env := by rfl) (hs2 : starEach [a] X.env = [(false, eval a X.env)] := by rfl) :
    PIX X E (.Tuple elts kk tpos) (.Call (.Name "enumerate" p) [a] [] pos) (enuV Fa) := pi_weak (pi_enumT hg hm (pa_cons ha pa_nil hs) hs2) fun σ H R ⟨W, ρ, μ, r, h, e, q⟩ => by
  refine tX_bind h e q fun v s W1 H1 μ1 g1 h1 rs e1 q1 => ?_
  split at e1
  · cases e1
    cases rs with
    | tup z1 y1 => exact ⟨_, _, rfl, seqT_mono h1.rel.sub z1, q1 _ _ (Grow.refl _ _ _) h1.rel _ (wk_enu z1 y1)⟩
  · cases e1
end
end Pf

namespace Pf
open PySem PySem.Spec PyProof.Rows L2
/-! ### an error of the program's own, with one field -/
section
open PySem.W PySem.Calls PySem.HandSPX
def tlArgs (a b : Pos) : Arguments := { vararg := none, kwarg := none, posonlyargs := [], kwonlyargs := [], kw_defaults := [], defaults := [], args := [{ arg := "self", annotation := none, pos := a }, { arg := "bound", annotation := none, pos := b }] }
def tlBody (a b c d : Pos) : List Stmt := [.Assign [.Attribute (.Name "self" a) "bound" b] (.Name "bound" c) d]
def tlScope : Scope := { isGenerator := false, isCoroutine := false, more := [], kind := .function, names := [(PySem.Str.ofString "self", .local), (PySem.Str.ofString "bound", .local)] }
/-- what stands of TooLarge, at C, its __init__ at f -/
structure TL (K : Frag) (mg : Str → Option Value) (C f : Addr) : Prop where
  nC : nsIn K mainGlobals "TooLarge" = some (some (.ref C))
  gC : mg "TooLarge" = some (.ref C)
  ob : ∃ nm q N bs bm sn sub ab col dd m0 m1 m2 m3 m5, K.lookup C = some (excClassObj nm q C N bs bm true sn sub ab col dd m0 m1 m2 m3 m5 "ValueError.__new__") ∧ refsVE bm = true
  f_set : findIn K (.ref C) "__setattr__" = some (some (.builtin "object.__setattr__"))
  f_get : findIn K (.ref C) "__getattribute__" = some (some (.builtin "BaseException.__getattribute__"))
  f_at : findIn K (.ref C) "__getattr__" = some none
  f_fld : findIn K (.ref C) "bound" = some none
  f_ini : findIn K (.ref C) "__init__" = some (some (.ref f))
  f_cls : findIn K (.ref C) "__class__" = some (some (.builtin "object.__class__"))
  s_get : specialIn K (.builtin "object.__class__") "__get__" = some (some (.builtin "getset_descriptor.__get__"))
  tk : takesIn K (.builtin "object.__class__") = some true
  mro : mroIn K C (.type "object") = some true
  tyF : typeIn K (.ref f) = some (.type "function")
  kp : keepIn K (.ref C) = true
  sub : subIn K (.ref C) (.type "BaseException") = some true
  tyC : typeIn K (.ref C) = some (.type "type")
  dct : hasDictIn K C = true
  fn : ∃ (oc : Value) (od : Option Addr) (kV doc pm : Value) (an : Option Addr) (cdv ct : Value) (osl : Array (Option Value)) (p1 p2 q1 q2 q3 q4 : Pos),
    K.lookup f = some ⟨oc, od, .func (fnOf "__init__" "TooLarge.__init__" (tlArgs p1 p2) (tlBody q1 q2 q3 q4) tlScope .none kV doc pm an cdv ct), osl⟩ ∧ codeIn K cdv "TooLarge.__init__" = true
theorem sz_one (v : Value) : [v].length ≤ sizeLine := by
  rw [sizeLine_eq]
  show 1 ≤ 16777216
  decide
theorem ld_param {M : Model} {s : Shared} {nm : Str} {sc : Scope} {L a : Addr} {cdv : Value} {m : Str → Option Value} {y : Str} {pos : Pos} {v : Value} {Q : Value → Shared → Prop} {A : Around} {E : Value → Shared → Prop} (hn : s.heap.Ns L m) (hv : m y = some v) (h : Q v s)
    (hk : sc.kind = .function := by rfl) (hl : (envOfC nm sc L a cdv).kindOf y = some .local := by rfl) (hd : (y == ("__debug__" : Str)) = false := by decide) : wpAny M A (eval (.Name y pos) (envOfC nm sc L a cdv)) Q E s := by
  refine wpAny_Name (wpAny_loadName_local hk hl hn hv h) hd
/-- behind __init__ -/
structure TlEnd (h h' : Heap) (x C dx t1 : Addr) (v : Value) : Prop where
  rest : ∀ b o, b ≠ x → h.get? b = some o → h'.get? b = some o
  self : h'.get? x = some { cls := .ref C, data := .fields #[.ref t1, .none, .none, .none, .bool false, .none], dict := some dx }
  late : h.objs.size ≤ dx
  apart : dx ≠ x
  fld : h'.Ns1 dx (fun y => if y = "bound" then some v else none)
/-- behind the making -/
structure TlMade (h h' : Heap) (e C d : Addr) (v : Value) : Prop where
  rest : ∀ b o, h.get? b = some o → h'.get? b = some o
  new : h.objs.size ≤ e
  self : ∃ oe vs, h'.get? e = some oe ∧ oe.cls = .ref C ∧ oe.dict = some d ∧ oe.data = .fields vs ∧ vs[1]? = some .none
  late : h.objs.size ≤ d
  apart : d ≠ e
  fld : h'.Ns1 d (fun y => if y = "bound" then some v else none)
variable {prog : Program} {w : World} {A : Around} {E : Value → Shared → Prop} {R : Result → Shared → Prop} {s : Shared} {K : Frag} {mg : Str → Option Value} {C f : Addr}
theorem tl_init (T : TL K mg C f) {x t0 : Addr} {v : Value} (X : K.In s.heap) (lim : s.heap.NoLimit) (hx : s.heap.get? x = some (excO C t0)) (room : A.depth < recursionLimit)
    (fin : ∀ h' tk dx, TlEnd s.heap h' x C dx t0 v → R (.ok (.ret .none)) { s with heap := h', toks := tk }) : codeAny (model prog w) A (.call (.ref f) ⟨[.ref x, v], []⟩) R s := by
  obtain ⟨oc, od, kV, doc, pm, an, cdv, ct, osl, p1, p2, q1, q2, q3, q4, ho, hcd⟩ := T.fn
  obtain ⟨nm, q, N, bs, bm, sn, sub, ab, col, dd, m0, m1, m2, m3, m5, hC, hbm⟩ := T.ob
  have cd : clsIn K C = some { name := nm, bases := bs, mro := .ref C :: bm, ns := N, qualname := q, hasDict := true, slotNames := sn, subclasses := sub, abstract := ab, collection := col, hasDel := false } := by
    unfold clsIn
    rw [hC] <;> rfl
  refine Att.call_fn (binds := [("self", .ref x), ("bound", v)]) X lim ho hcd room (BindsTo.of_eq (by first | rfl | with_unfolding_all rfl)) (by first | rfl | decide | with_unfolding_all rfl) (fun s₁ ic => ?_) rfl rfl rfl
  obtain ⟨h₁, tk₁, rfl⟩ := ic.toInCall.same
  have keep := ic.toInCall.keep
  have ns := ic.toInCall.ns
  have X₁ : K.In h₁ := X.keeps keep
  have hx₁ := keep _ _ hx
  show wpAny _ _ (execs _ _) _ _ _
  refine wpAny_execs_cons (plainObj_wpAny_Assign_Attribute (ld_param (v := v) ns (by first | rfl | with_unfolding_all rfl | kernel_rfl) (ld_param (v := .ref x) ns (by first | rfl | with_unfolding_all rfl | kernel_rfl) ?_)))
  refine set_plain X₁ (ox := excO C t0) (od := none) ⟨hx₁, rfl, rfl, trivial⟩ T.f_set (exc_osa X₁ hx₁ cd (show refsVE (.ref C :: bm) = true from hbm) rfl T.f_fld (fun h₃ tk₃ dx k₃ dn dne hx₃ hn₃ => ?_))
  have lt : s.heap.objs.size < h₁.objs.size := ns.lt
  show wpAny _ _ (execs _ _) _ _ _
  exact wpAny_execs_nil (fin h₃ tk₃ dx ⟨fun b o hb e => k₃ b o hb (keep b o e), hx₃, Nat.le_of_lt (Nat.lt_of_lt_of_le lt dn), dne, hn₃⟩)
theorem tl_made (T : TL K mg C f) {v : Value} (X : K.In s.heap) (lim : s.heap.NoLimit) (room : A.depth + 1 < recursionLimit) (fin : ∀ h' tk e d, TlMade s.heap h' e C d v → R (.ok (.ret (.ref e))) { s with heap := h', toks := tk }) :
    codeAny (model prog w) A (.call (.ref C) ⟨[v], []⟩) R s := by
  obtain ⟨nm, q, N, bs, bm, sn, sub, ab, col, dd, m0, m1, m2, m3, m5, hC, hbm⟩ := T.ob
  obtain ⟨hp, g, dr, tk, os⟩ := s
  have keep : ∀ b o, hp.get? b = some o → ((hp.push (kdv_tup [v])).push (excO C hp.objs.size)).get? b = some o := fun b o e => Heap.get?_push_of_some _ (Heap.get?_push_of_some _ e)
  have at_ : ((hp.push (kdv_tup [v])).push (excO C hp.objs.size)).get? (hp.objs.size + 1) = some (excO C hp.objs.size) := by heap_get
  refine call_own F.excBase_ValueError (fun Y => refsVE_contains Y bm hbm) (X _ _ hC) (looks_findIn X T.f_ini) (fun self => bind_fn X self T.tyF) (sz_one v) ?_
  refine tl_init (s := ⟨(hp.push (kdv_tup [v])).push (excO C hp.objs.size), g, dr, tk, os⟩) T (X.keeps keep) (lim.keeps keep) at_ (show A.depth + 1 < recursionLimit from room) fun h' tk' dx ⟨k', hx, dn, dne, hns⟩ => ?_
  have old : ∀ b o, hp.get? b = some o → h'.get? b = some o := fun b o e => k' b o (Nat.ne_of_lt (Nat.lt_succ_of_lt (Heap.lt_size e))) (keep b o e)
  have z : hp.objs.size + 1 + 1 ≤ dx := by
    first
      | (simpa only [Heap.size_push] using dn)
      | exact dn
      | (have q := dn; rw [Heap.size_push, Heap.size_push] at q; exact q)
  refine ⟨rfl, fin h' tk' (hp.objs.size + 1) dx ⟨old, Nat.le_succ _, ⟨_, _, hx, rfl, rfl, rfl, rfl⟩, Nat.le_trans (Nat.le_trans (Nat.le_succ _) (Nat.le_succ _)) z, dne, hns⟩⟩
end
theorem rel_bound {v : V} {v' : Value} (r : RelV v v') (g : Str) : RelO (List.lookup g [(("bound" : Str), v)]) (if g = "bound" then some v' else none) := by
  by_cases h : g = "bound"
  · subst h
    rw [if_pos rfl, show List.lookup ("bound" : Str) [(("bound" : Str), v)] = some v by simp [List.lookup]]
    exact r
  · rw [if_neg h, show List.lookup g [(("bound" : Str), v)] = none by
      have n : (g == ("bound" : Str)) = false := by simpa using h
      simp [List.lookup, n]]
    trivial
section
variable {X : Cx} {E : XK} {C f : Addr} {k : Nat} {a e : Expr} {es : List Expr} {Fa : Rho → M Sv} {Fs Fk : Rho → M (List Sv)} {p pos pos2 : Pos}
def mkTl (C : Addr) (ta : TA) : L2.St → Hp → XK → Prop := fun σ H Q => ta σ H fun vs H1 => ∃ v, vs = [v] ∧ ∀ d, H1 d = none → Q (.ref C) (some d) (upd H1 d (.xd [(("bound" : Str), v)]))
theorem pmk_tl {ta : TA} (T : TL X.K X.mg C f) (hr : Room k X.A) (ha : PA X [a] ta) (hg : Gl X "TooLarge" := by rfl) (he : starEach (a :: []) X.env = (false, eval a X.env) :: starEach [] X.env := by rfl) (hpl : (backTo pos (starEach [] X.env)).any (·.1) = false := by rfl) :
    PMk X (.Call (.Name "TooLarge" p) [a] [] pos) (mkTl C ta) := by
  intro pins s σ H Q I h
  refine wpAny_Call_Name_kw (ld_glob I hg T.gC (PySem.W.callWith_K (h₀ := X.base) I.ok.mod.kin T.kp (thn (ha.run pos pins s σ H _ I h) fun us s1 ⟨vs, H1, I1, r1, v, ev, q1⟩ => ⟨I1.kIn, ?_⟩) he hpl))
  subst ev
  obtain ⟨u, rfl, rv⟩ := vals1 r1
  show wpAny _ _ (call (.ref C) [u]) _ _ _
  have lim := I1.nolimit
  obtain ⟨hp, g, dr, tk, os⟩ := s1
  refine wpAny_call (tl_made T I1.kIn lim (by have := hr.dp; omega) fun h' tk' e d mk => ?_)
  show MkP X pins σ Q (.ref e) ⟨h', g, dr, tk', os⟩
  obtain ⟨oe, fv, hoe, hc, hd, hdat, h1⟩ := mk.self
  obtain ⟨G, g1, g2⟩ := restrict h' fun b => decide (b ≠ e)
  have gk : ∀ b, b ≠ e → G.get? b = h'.get? b := fun b hb => g1 b (decide_eq_true hb)
  have ge : G.get? e = none := g2 e (by simp)
  have old : ∀ b o, hp.get? b = some o → G.get? b = some o := fun b o q => (gk b (Nat.ne_of_lt (Nat.lt_of_lt_of_le (Heap.lt_size q) mk.new))).trans (mk.rest b o q)
  have ob : ObjOk X.prog X.w (upd H1 d (.xd [(("bound" : Str), v)])) G d (.xd [(("bound" : Str), v)]) := ⟨_, mk.fld.at (fun o q => (gk d mk.apart).trans q), fun g => rel_bound rv g⟩
  have J : Inv X pins σ (upd H1 d (.xd [(("bound" : Str), v)])) ⟨G, g, dr, tk', os⟩ := I1.laid (t' := tk') old mk.late ob
  have none_e : upd H1 d (.xd [(("bound" : Str), v)]) e = none := by
    rw [upd_ne (Ne.symm mk.apart)]
    exact I1.hok.fresh mk.new
  refine ⟨e, oe, fv, ⟨G, g, dr, tk', os⟩, _, .ref C, some d, rfl, J, fun b o q => ?_, ge, hoe, ⟨hc, hd⟩, hdat, h1, none_e, rfl, I1.bare, raises_own T.sub T.tyC, q1 d (I1.hok.fresh mk.late)⟩
  have q0 : G.get? b = some o := q
  have hb : b ≠ e := fun z => by
    rw [z, ge] at q0
    cases q0
  exact (gk b hb).symm.trans q0
def gRaise (Fa : Rho → M Sv) (ρ : Rho) : M Out := (Fa ρ).bind fun s => M.thr ⟨"TooLarge", some ("bound", s)⟩
theorem s_raise (T : TL X.K X.mg C f) (hc : X.calm = true) (hr : Room k X.A) (tk : Takes X (fun cls d _ H => E cls d H)) (ha : PX X E a Fa) (hg : Gl X "TooLarge" := by rfl) (he : starEach (a :: []) X.env = (false, eval a X.env) :: starEach [] X.env := by rfl) (hpl : (backTo pos (starEach [] X.env)).any (·.1) = false := by rfl) :
    PSX X E (.Raise (some (.Call (.Name "TooLarge" p) [a] [] pos)) none pos2) (gRaise Fa) := ps_weak (ps_raise hc tk (pmk_tl T hr (pa_cons ha pa_nil he) hg he hpl)) fun D σ H ⟨W, ρ, μ, r, h, e, q⟩ => by
  refine tX_bind h e q fun v s W1 H1 μ1 g1 h1 rs e1 q1 => ⟨v, rfl, fun d hd => ?_⟩
  cases e1
  exact q1 W1 _ (.ref C) (some d) ((Grow.refl _ _ _).out hd fun b hb => upd_ne hb) (h1.rel.lay hd) ⟨⟨C, T.nC, rfl⟩, d, v, rfl, upd_same, rs⟩
/-! ### isinstance of a caught one -/
theorem held_at {pins : List (Addr × Obj)} {σ : L2.St} {H : Hp} {s : Shared} {a dd : Addr} {oe : Obj} {pn : List (Addr × Obj)} {fs : List (Str × V)} (I : Inv (X.suite a ((a, oe) :: pn)) pins σ H s) (hz : Zc (.ref C) (some dd) oe) (hf : ∃ vs, oe.data = .fields vs) (hd : H dd = some (.xd fs)) :
    ∃ od, PySem.W.InstAt s.heap a oe C (some od) := by
  obtain ⟨ha, _⟩ := I.pin (a, oe) (List.mem_append_left _ List.mem_cons_self)
  obtain ⟨vs, hv⟩ := hf
  have hx : ObjOk X.prog X.w H s.heap dd (.xd fs) := I.hok dd _ hd
  obtain ⟨mA, hns, _⟩ := hx
  obtain ⟨od, ho, _⟩ := lookIn_ns hns
  exact ⟨od, ha, hz.1, by unfold PySem.W.notCls; rw [hv] <;> rfl, by rw [hz.2]; exact ho⟩
/-! ### the try of the law's own -/
/-- exceptions of a try's body, whatever the slots -/
def EW (n : Nat) (W : WX) : XK := fun cls d H => ∀ σ : L2.St, σ.length = n → W cls d σ H
theorem passW {W : WX} (tk : Takes X W) : Passes (L2.CX X.prog X.w) X (EW X.N.length W) := fun pins σ H s e s' I c => tk e s' (XE.of_call I (fun cls d H' h => h σ I.len) c)
/-- the classes that the clause names -/
structure ErrZ (K : PySem.W.Frag) (mg : Str → Option Value) (C f CF C1 C2 : Addr) : Prop where
  tl : TL K mg C f
  gF : mg "FallError" = some (.ref CF)
  g1 : mg "BadLength" = some (.ref C1)
  g2 : mg "BadTree" = some (.ref C2)
  ex : PySem.W.exmOne K (.ref C) (.ref CF) = some true
  k0 : PySem.W.kitOne K (.ref C) (.ref C) = some true
  k1 : PySem.W.kitAny K (.ref C) [.ref C1, .ref C2] = some false
end
/-! ### a call with keywords -/
structure KB (K : PySem.W.Frag) (fd : FuncData) (ps : List Str) (n : Nat) (ks : List Str) : Prop where
  to : ∀ (s : Shared) (us ws : List Value), K.In s.heap → us.length = n → ws.length = ks.length → BindsTo s fd ⟨us, ks.zip ws⟩ (ps.zip (us ++ ws))
section
variable {X : Cx} {E : XK} {CX : CXT} {k j n : Nat} {f : Addr} {fd : FuncData} {ps ks : List Str} {x : Str} {p pos kpos : Pos} {a e : Expr} {es : List Expr} {kws : List Keyword} {nm : Option Str} {Fm : List Sv → M Sv} {Fa : Rho → M Sv} {Fs Fk : Rho → M (List Sv)}
end
end Pf

namespace Pf
open PySem PySem.Spec PyProof.Rows L2
/-! running bodies, what is shown: shared by the laws -/
/-! ### a tuple's repetition -/
theorem flat_dqs {K : PySem.W.Frag} {H : Hp} {vs : List V} {xs : List PyData} (h : Dqs K H vs xs) : ∀ k : Nat, Dqs K H (List.replicate k vs).flatten (List.replicate k xs).flatten
  | 0 => .nil
  | k + 1 => by
    rw [List.replicate_succ, List.replicate_succ, List.flatten_cons, List.flatten_cons]
    exact h.append (flat_dqs h k)
theorem x_gintE {X : Cx} {E : XK} {x : Str} {i : Int} {pos : Pos} (hg : Gl X x) (h : ∃ t, X.mg x = some (.int i t)) (hd : (x == ("__debug__" : Str)) = false := by decide) : PX X E (.Name x pos) (con (.int i)) := by
  obtain ⟨t, e⟩ := h
  exact x_gint hg e ⟨t, rfl⟩ hd
/-! ### more running -/
theorem atI_mem {α : Type} {xs : List α} {i : Int} (h0 : 0 ≤ i) (h1 : i < xs.length) : ∃ x, x ∈ xs ∧ atI xs i = some x := by
  obtain ⟨x, a, b⟩ := atI_lt h0 h1
  exact ⟨x, List.mem_of_getElem? a, b⟩
/-! ### values by two kinds: no dict within, no list within -/
def cls (c : Bool) (d : PyData) : Bool := match c with
  | true => bare d
  | false => !d.hasDict
structure Va (c : Bool) (d : PyData) (n k : Nat) : Prop where
  lf : lfs d = true
  cl : cls c d = true
  dp : d.depth ≤ k
  sz : wt d ≤ n
theorem Va.up {c : Bool} {d : PyData} {n k n' k' : Nat} (h : Va c d n k) (hn : n ≤ n') (hk : k ≤ k') : Va c d n' k' := ⟨h.lf, h.cl, Nat.le_trans h.dp hk, Nat.le_trans h.sz hn⟩
theorem Va.nice {c : Bool} {d : PyData} {n k : Nat} (h : Va c d n k) (hk : k ≤ 10) : Nice d n := ⟨h.lf, by
  have z := h.cl
  cases c with
  | true => rw [show bare d = true from z, Bool.or_true]
  | false => rw [show (!d.hasDict) = true from z, Bool.true_or], Nat.le_trans h.dp hk, h.sz⟩
theorem bareAll_of : ∀ {ds : List PyData}, (∀ d ∈ ds, bare d = true) → bare.bareAll ds = true
  | [], _ => by simp only [bare.bareAll]
  | d :: ds, h => by
    simp only [bare.bareAll, h d List.mem_cons_self, bareAll_of (ds := ds) fun d hd => h d (List.mem_cons_of_mem _ hd), Bool.and_self]
theorem Va.tuple {c : Bool} {ds : List PyData} {n k : Nat} (h : ∀ d ∈ ds, Va c d n k) : Va c (.tuple ds) ((n + 2) * ds.length + 3) (k + 1) :=
  ⟨by simp only [lfs]; exact lfss_of fun d hd => (h d hd).lf, by
    cases c with
    | true => simp only [cls, bare]; exact bareAll_of fun d hd => (h d hd).cl
    | false =>
      simp only [cls, PyData.hasDict]
      rw [nodict_of fun d hd => ?_]
      · rfl
      · have z : (!d.hasDict) = true := (h d hd).cl
        simpa using z, by simp only [PyData.depth]; exact Nat.succ_le_succ (depth_of fun d hd => (h d hd).dp),
    by simp only [wt]; exact Nat.add_le_add_right (wts_le fun d hd => (h d hd).sz) 3⟩
theorem Va.list {ds : List PyData} {n k : Nat} (h : ∀ d ∈ ds, Va false d n k) : Va false (.list ds) ((n + 2) * ds.length + 2) (k + 1) :=
  ⟨by simp only [lfs]; exact lfss_of fun d hd => (h d hd).lf, by
      simp only [cls, PyData.hasDict]
      rw [nodict_of fun d hd => ?_]
      · rfl
      · have z : (!d.hasDict) = true := (h d hd).cl
        simpa using z, by simp only [PyData.depth]; exact Nat.succ_le_succ (depth_of fun d hd => (h d hd).dp),
    by simp only [wt]; exact Nat.add_le_add_right (wts_le fun d hd => (h d hd).sz) 2⟩
def vaB (c : Bool) (d : PyData) (n k : Nat) : Bool := lfs d && cls c d && decide (d.depth ≤ k) && decide (wt d ≤ n)
theorem Va.of {c : Bool} {d : PyData} {n k : Nat} (h : vaB c d n k = true) : Va c d n k := by
  obtain ⟨h, h4⟩ := Bool.and_eq_true_iff.mp h
  obtain ⟨h, h3⟩ := Bool.and_eq_true_iff.mp h
  obtain ⟨h1, h2⟩ := Bool.and_eq_true_iff.mp h
  exact ⟨h1, h2, of_decide_eq_true h3, of_decide_eq_true h4⟩
theorem Va.int {c : Bool} {i : Int} (h : i.natAbs < 10 ^ 42) : Va c (.int i) 44 0 := ⟨by simp only [lfs]; exact decide_eq_true h, by cases c <;> simp [cls, bare, PyData.hasDict], by simp only [PyData.depth]; exact Nat.le_refl _, by simp only [wt]; exact Nat.le_refl _⟩
theorem cutL_map {α β : Type} (g : α → β) (xs : List α) (lo hi : Option Int) : cutL (xs.map g) lo hi = (cutL xs lo hi).map g := by
  unfold cutL
  rw [List.length_map, List.map_take, List.map_drop]
/-! ### results that may be the error -/
section
variable {α : Type} {enc : α → List Sv} {ok : α → Prop} {out : α → Option PyData}
end
end Pf

namespace Pf
open PySem PySem.Spec PyProof.Rows L2 PySem.W 
mutual
theorem noOb_plain : ∀ {d : PyData}, d.plain = true → noOb d = true
  | .none, _ => rfl
  | .bool _, _ => rfl
  | .int _, _ => rfl
  | .str _, _ => rfl
  | .list ds, h => by
    simp only [PyData.plain] at h
    simp only [noOb]
    exact noObAll_plain h
  | .tuple ds, h => by
    simp only [PyData.plain] at h
    simp only [noOb]
    exact noObAll_plain h
  | .dict _, h => by simp only [PyData.plain] at h; cases h
theorem noObAll_plain : ∀ {ds : List PyData}, PyData.plainAll ds = true → noOb.noObAll ds = true
  | [], _ => rfl
  | d :: ds, h => by
    simp only [PyData.plainAll, Bool.and_eq_true] at h
    simp only [noOb.noObAll, noOb_plain h.1, noObAll_plain h.2, Bool.and_self]
end
/-! ### max(xs), min(xs) of ints; e in xs -/
section
variable {X : Cx} {E : XK}
/-- max, min of a list or a tuple of ints -/
def bBest (f : Int → Int → Int) (ss : List Sv) : M Sv := match ss with
  | [s] => (rd s).bind fun d => match d with
    | .list ds => (orFail (asInts ds)).bind fun ns => match ns with
      | n :: r => M.ret (.dat (.int (r.foldl f n)))
      | [] => M.fail
    | .tuple ds => (orFail (asInts ds)).bind fun ns => match ns with
      | n :: r => M.ret (.dat (.int (r.foldl f n)))
      | [] => M.fail
    | _ => M.fail
  | _ => M.fail
theorem asInts_eq : ∀ {ds : List PyData} {ns : List Int}, asInts ds = some ns → ds = ns.map PyData.int
  | [], _, e => by
    cases e
    rfl
  | .int i :: ds, _, e => by
    have e' : (asInts ds).map (i :: ·) = some _ := e
    cases q : asInts ds with
    | none =>
      rw [q] at e'
      cases e'
    | some z =>
      rw [q] at e'
      cases e'
      rw [asInts_eq q]
      rfl
  | .none :: _, _, e => nomatch e
  | .bool _ :: _, _, e => nomatch e
  | .str _ :: _, _, e => nomatch e
  | .list _ :: _, _, e => nomatch e
  | .tuple _ :: _, _, e => nomatch e
  | .dict _ :: _, _, e => nomatch e
theorem alike_ints (ns : List Int) : AlikeAll (ns.map PyData.int) := by
  refine ⟨fun x hx y hy => ?_, fun x hx => ?_⟩
  · obtain ⟨i, _, rfl⟩ := List.mem_map.mp hx
    obtain ⟨j, _, rfl⟩ := List.mem_map.mp hy
    rfl
  · obtain ⟨i, _, rfl⟩ := List.mem_map.mp hx
    exact fun z => nomatch z
theorem depth_int : ∀ ns : List Int, PyData.depthAll (ns.map PyData.int) = 0
  | [] => by simp only [List.map_nil, PyData.depthAll]
  | n :: r => by simp only [List.map_cons, PyData.depthAll, PyData.depth, depth_int r, Nat.max_self]
theorem best_ent {f : Int → Int → Int} {xs : List V} {H : Hp} {Q : VK} (h : rC X.K E (bBest f) xs H Q) :
    ∃ (a : Addr) (vs : List V) (n : Int) (r : List Int), xs = [V.ref a] ∧ (H a = some (.lst vs) ∨ SqT X.K H a vs) ∧ Dqs X.K H vs ((n :: r).map PyData.int) ∧ Q (.int (r.foldl f n)) H := by
  obtain ⟨W, μ, ss, r, R, rs, e, q⟩ := h
  unfold bBest at e
  split at e
  · obtain ⟨x, rfl, h⟩ := rels1 rs
    obtain ⟨d, e1, e⟩ := rd_bind e
    obtain ⟨d', z1, h1⟩ := rd_rel R h e1
    cases z1
    split at e
    · obtain ⟨ns, e2, e⟩ := orFail_some e
      cases ns with
      | nil => cases e
      | cons n r =>
        cases e
        have z := asInts_eq e2
        subst z
        cases h1 with
        | lst h2 r2 => exact ⟨_, _, n, r, rfl, .inl h2, r2, q _ _ (Grow.refl _ _ _) R _ (.int _)⟩
    · obtain ⟨ns, e2, e⟩ := orFail_some e
      cases ns with
      | nil => cases e
      | cons n r =>
        cases e
        have z := asInts_eq e2
        subst z
        cases h1 with
        | tup h2 r2 => exact ⟨_, _, n, r, rfl, .inr h2, r2, q _ _ (Grow.refl _ _ _) R _ (.int _)⟩
    · cases e
  · cases e
abbrev bMinA := bBest min
theorem b_minA (hu : X.A.units + 64 < cLine) (hc : X.calm = true := by rfl) : CallR X (.builtin "min") (rC X.K E bMinA) := by
  intro pins s σ H xs us Q I rv h
  obtain ⟨a, vs, n, r, rfl, hs, hd, q⟩ := best_ent h
  obtain ⟨u, rfl, rx⟩ := vals1 rv
  cases rx
  have dp := depth_int (n :: r)
  have fin : ∀ v h' tk bs, Reads h' v (minD (.int n) (r.map .int)) bs → (∀ b o, s.heap.get? b = some o → h'.get? b = some o) → EP X pins σ Q v { s with heap := h', toks := tk } := fun v h' tk bs rd k => by
    rw [minD_ints] at rd
    cases rd with
    | int i t => exact ⟨.int _, H, I.kept k, ⟨_, rfl⟩, q⟩
  rcases hs with hs | hs
  · obtain ⟨its, rv2, ht, hz⟩ := I.list (SqL.of hs)
    obtain ⟨as, hr, _⟩ := Dqs.reads I hd (noOb_ints (n :: r)) rv2
    exact min_list_data (vs := its.toArray) (I.ok.hd hc) ht.isList hr (alike_ints (n :: r)) (by rw [show PyData.depthAll (PyData.int n :: r.map PyData.int) = 0 from dp]; omega) fun i v h' tk bs _ rd k => fin v h' tk bs rd k
  · obtain ⟨its, rv2, ht, hz⟩ := I.tuple hs
    obtain ⟨as, hr, _⟩ := Dqs.reads I hd (noOb_ints (n :: r)) rv2
    exact min_tuple_data (vs := its.toArray) (I.ok.hd hc) ht hr (alike_ints (n :: r)) (by rw [show PyData.depthAll (PyData.int n :: r.map PyData.int) = 0 from dp]; omega) fun i v h' tk bs _ rd k => fin v h' tk bs rd k
end
end Pf
namespace Pf
open PySem L2
end Pf

set_option maxHeartbeats 1000000
namespace Pf
open PySem PySem.Spec PyProof.Rows L2
/-! ### the laws' own falls of pushes (law texts of the falls) -/
end Pf

set_option maxHeartbeats 1000000
namespace Pf
open PySem PySem.Spec PyProof.Rows L2
/-! ### the laws' own drawn tables -/
theorem Deck.push {n : Int} {rest μ : Mu} (D : Deck n rest μ) (o : Mu) : Deck n (rest ++ o) (μ ++ o) := by
  obtain ⟨cs, h1, h2, rfl⟩ := D.ex
  exact ⟨cs, h1, h2, rfl⟩
theorem Deck.len {n : Int} {rest μ : Mu} (D : Deck n rest μ) : μ.length = 2 + rest.length := by
  obtain ⟨cs, h1, h2, rfl⟩ := D.ex
  show rest.length + 1 + 1 = _
  omega
theorem Deck.put {n : Int} {rest μ : Mu} {o : MObj} (D : Deck n (rest ++ [o]) μ) (o' : MObj) : Deck n (rest ++ [o']) (μ.set (2 + rest.length) o') := by
  obtain ⟨cs, h1, h2, rfl⟩ := D.ex
  refine ⟨cs, h1, h2, ?_⟩
  unfold deckMu
  rw [Nat.add_comm, List.set_cons_succ, List.set_cons_succ, List.set_append_right _ _ (Nat.le_refl _), Nat.sub_self]
  rfl
end Pf

set_option maxHeartbeats 1000000
namespace Pf
open PySem PySem.Spec PyProof.Rows L2
/-! ### the laws' own needed pushes -/
def tabD (T : List Int) : PyData := .tuple (T.map .int)
end Pf

set_option maxHeartbeats 4000000
namespace Pf
open PySem PySem.Spec PyProof.Rows L2
/-! ### a tuple times 1: the tuple itself -/
theorem mul_one_meets (l : Addr) (items : Array Value) (n : Nat) (dd : Option Addr) (sl : Array (Option Value)) (u : Tok) : Meets (Builtin.«tuple.__mul__» ⟨[.ref l, .int 1 u], []⟩) (fun _ R s => s.heap.get? l = some { cls := .type "tuple", dict := dd, data := .seq items n, slots := sl } ∧ R (.ok (.ret (.ref l))) s) :=
  .of_wp fun prog w A R s h => by
    obtain ⟨hp, g, d, tk, os⟩ := s
    obtain ⟨at_, fin⟩ := h
    have f1 := AutoSeq1.idx_int
    have z0 : (decide ((1 : Int) < -(2 ^ 63)) || decide ((1 : Int) ≥ 2 ^ 63)) = false := by decide
    have z1 : (items.isEmpty || (1 : Int) == 1) = true := by simp
    wp_walk using wpAny_loadPart' at_
    repeat (first
      | (refine wpAny_ite_false (decide_eq_false (by rw [z0]; exact Bool.false_ne_true)) ?_; wp_walk using wpAny_loadPart' at_)
      | (refine wpAny_ite_true (decide_eq_true (by rw [z1])) ?_; wp_walk using wpAny_loadPart' at_))
    exact ⟨_, rfl, fin⟩
def rOneT (K : PySem.W.Frag) : R2 := fun x y H Q => ∃ l xs, x = .ref l ∧ y = .int 1 ∧ SqT K H l xs ∧ Q (.ref l) H
theorem op_oneT {X : Cx} : OpR X (binaryOp .Mult) (rOneT X.K) := by
  intro pins s σ H x y v u Q I rx ry ⟨l, xs, e1, e2, hT, q⟩
  subst e1 e2
  cases rx
  obtain ⟨t, rfl⟩ := ry
  obtain ⟨its, r, ⟨⟨cl, dd, dt, sl⟩, ho, hc, n, hd⟩, _⟩ := I.tuple hT
  simp only at hc hd
  subst hc hd
  refine wpAny_binaryOp_repeat_ref (T := "tuple") (U := "int") (by decide) ⟨_, ho, rfl⟩ (fun s' => typeIs_int s' 1 t) noFill_tuple_mul F.fills_int_mul F.slot_int_rmul repeat_tuple F.slot_int_index.lookup (call_meets F.slot_int_rmul (typeIs_int s 1 t) F.entry_int_rmul (F.args_int_rmul_2 _ _) (int_rmul_tuple 1 t l its.toArray n dd sl)
    ⟨ho, rfl, ⟨_, ho, rfl⟩, call_meets F.slot_tuple_mul ⟨_, ho, rfl⟩ F.entry_tuple_mul (F.args_tuple_mul_2 _ _) (mul_one_meets l its.toArray n dd sl t) ⟨ho, ⟨.ref l, H, I, rfl, q⟩⟩⟩)
/-- a tuple times an int from 1 on -/
def pMulA (a b : Sv) : M Sv := match a, b with
  | .dat (.tuple xs), .dat (.int k) => if (decide (0 < xs.length) && decide (1 ≤ k) && decide (k ≤ 1000) && decide (xs.length ≤ 1000)) = true then M.ret (.dat (.tuple (List.replicate k.toNat xs).flatten)) else M.fail
  | _, _ => M.fail
theorem o_mulA {X : Cx} {E : XK} : OpR X (binaryOp .Mult) (rO2 X.K E pMulA) := opr_weak ((op_oneT (X := X)).or op_repT) fun x y H Q ⟨W, μ, a, b, r, R, ra, rb, e, q⟩ => by
  unfold pMulA at e
  split at e
  · rename_i xs k
    obtain ⟨c, e⟩ := iff_ok e
    obtain ⟨c, c4⟩ := Bool.and_eq_true_iff.mp c
    obtain ⟨c, c3⟩ := Bool.and_eq_true_iff.mp c
    obtain ⟨c1, c2⟩ := Bool.and_eq_true_iff.mp c
    have k1 := of_decide_eq_true c2
    cases ra with
    | tup h1 r1 =>
      have l := r1.len
      by_cases hk : k = 1
      · subst hk
        have ek := dq_int rb
        subst ek
        cases e
        rw [show (List.replicate (1 : Int).toNat xs).flatten = xs by simp] at q
        exact .inl ⟨_, _, rfl, rfl, seqT_mono R.sub h1, q _ _ (Grow.refl _ _ _) R _ (.tup h1 r1)⟩
      · refine .inr ⟨_, _, _, rfl, dq_int rb, seqT_mono R.sub h1, fun z => ?_, by omega, of_decide_eq_true c3, by rw [l]; exact of_decide_eq_true c4, fun p hp => dq_tup R hp (flat_dqs r1 _) e q⟩
        rw [z] at l
        have := of_decide_eq_true c1
        rw [← l] at this
        exact absurd this (Nat.lt_irrefl 0)
  · cases e
end Pf

namespace Pf
open PySem PySem.Spec PyProof.Rows L2
/-! ### the second reading: values are data, the deck is the state -/
/-- the deck: its cells (of the laws whose draws are told apart: what is left of them), the count, the cells that stay -/
structure Dk where
  cs : List Int
  n : Int
  ce : Option (List Int)
structure Ec where
  C : Str
  fld : Option (Str × PyData)
def Ec.up (c : Ec) : Exc := ⟨c.C, c.fld.map fun p => (p.1, .dat p.2)⟩
inductive Rs (α : Type) where
  | ok (a : α)
  | ex (c : Ec)
def S (α : Type) : Type := Dk → Option (Rs α × Dk)
namespace S
variable {α β γ : Type}
def ret (a : α) : S α := fun k => some (.ok a, k)
def fail : S α := fun _ => none
def thr (c : Ec) : S α := fun k => some (.ex c, k)
def bind (m : S α) (f : α → S β) : S β := fun k => match m k with
  | some (.ok a, k') => f a k'
  | some (.ex c, k') => some (.ex c, k')
  | none => none
def lift (o : Option α) : S α := fun k => match o with
  | some a => some (.ok a, k)
  | none => none
def noEx (m : S α) : S α := fun k => match m k with
  | some (.ok a, k') => some (.ok a, k')
  | _ => none
theorem ret_bind (a : α) (f : α → S β) : (ret a).bind f = f a := by
  funext k
  rfl
theorem thr_bind (c : Ec) (f : α → S β) : (thr c).bind f = thr c := by
  funext k
  rfl
theorem lift_some (a : α) : lift (some a) = ret a := by
  funext k
  rfl
theorem noEx_ret (a : α) : noEx (ret a) = ret a := by
  funext k
  rfl
theorem bind_ret (m : S α) : m.bind ret = m := by
  funext k
  unfold bind
  split <;> rename_i h <;> rw [h] <;> rfl
theorem bind_assoc (m : S α) (f : α → S β) (g : β → S γ) : (m.bind f).bind g = m.bind fun a => (f a).bind g := by
  funext k
  unfold bind
  cases m k with
  | none => rfl
  | some x =>
    obtain ⟨r, k'⟩ := x
    cases r <;> rfl
theorem bind_inv {m : S α} {f : α → S β} {k k' : Dk} {r : Rs β} (h : m.bind f k = some (r, k')) :
    (∃ a k1, m k = some (.ok a, k1) ∧ f a k1 = some (r, k')) ∨ ∃ c, m k = some (.ex c, k') ∧ r = .ex c := by
  unfold bind at h
  split at h
  · rename_i a k1 e
    exact .inl ⟨a, k1, e, h⟩
  · rename_i c k1 e
    cases h
    exact .inr ⟨c, e, rfl⟩
  · cases h
def mapM (f : α → S β) : List α → S (List β)
  | [] => ret []
  | a :: as => (f a).bind fun b => (mapM f as).bind fun bs => ret (b :: bs)
def mapF (f : α → S (Option β)) : List α → S (List β)
  | [] => ret []
  | a :: as => (f a).bind fun o => (mapF f as).bind fun bs => ret (match o with | some b => b :: bs | none => bs)
def foldM {σ : Type} (f : σ → α → S σ) : List α → σ → S σ
  | [], s => ret s
  | a :: as, s => (f s a).bind fun s' => foldM f as s'
theorem mapM_ret {f : α → S β} {g : α → β} : ∀ {xs : List α}, (∀ x ∈ xs, f x = ret (g x)) → mapM f xs = ret (xs.map g)
  | [], _ => rfl
  | x :: xs, h => by
    unfold mapM
    rw [h x List.mem_cons_self, ret_bind, mapM_ret (xs := xs) fun y hy => h y (List.mem_cons_of_mem _ hy)]
    rfl
theorem mapM_map {δ : Type} {f : α → S β} {g : δ → α} : ∀ {xs : List δ}, mapM f (xs.map g) = mapM (fun x => f (g x)) xs
  | [] => rfl
  | x :: xs => by
    rw [List.map_cons]
    unfold mapM
    rw [mapM_map (xs := xs)]
/-- by an invariant that counts -/
theorem foldM_inv {σ : Type} {f : σ → α → S σ} (I : Nat → σ → Prop) : ∀ {xs : List α} {s : σ} {k : Nat}, I k s → (∀ (i : Nat) s x, I (k + i) s → xs[i]? = some x → ∃ s', f s x = ret s' ∧ I (k + i + 1) s') → ∃ s', foldM f xs s = ret s' ∧ I (k + xs.length) s'
  | [], s, k, h, _ => ⟨s, rfl, h⟩
  | x :: xs, s, k, h, st => by
    obtain ⟨s1, e, i⟩ := st 0 s x h rfl
    obtain ⟨s2, e2, i2⟩ := foldM_inv I (xs := xs) (s := s1) (k := k + 1) i fun i s y hs hy => by
      have a1 : k + 1 + i = k + (i + 1) := by omega
      rw [a1] at hs ⊢
      exact st (i + 1) s y hs (by simpa using hy)
    refine ⟨s2, ?_, ?_⟩
    · unfold foldM
      rw [e, ret_bind, e2]
    · rw [List.length_cons]
      have a1 : k + (xs.length + 1) = k + 1 + xs.length := by omega
      rw [a1]
      exact i2
end S
/-! ### slots -/
def dkI (k : Dk) : List Sv := match k.ce with
  | none => [.ref 0, svI k.n]
  | some c => [.dat (.list (c.map .int)), svI k.n, .ref 0]
def dkO (k : Dk) : Mu := [.lst (k.cs.map svI), .lst (dkI k)]
inductive Sk where
  | im (d : PyData)
  | mt (ds : List PyData)
  | dk
  /-- a tag that is handed on as it is: an object under way -/
  | tg (t : Nat)
abbrev En := List (Option Sk)
def SkR (b : Nat) (μ : Mu) : Sk → Sv → Prop
  | .im d, s => s = .dat d
  | .mt ds, s => ∃ t, s = .ref t ∧ b ≤ t ∧ μ[t]? = some (.lst (ds.map Sv.dat))
  | .dk, s => s = .ref 1
  | .tg t, s => s = .ref t
structure EnvR (l : En) (k : Dk) (rest : Mu) (ρ : Rho) (μ : Mu) : Prop where
  pre : ∃ g, μ = dkO k ++ rest ++ g
  len : ρ.length = l.length
  at_ : ∀ (i : Nat) (x : Sk), l[i]? = some (some x) → ∃ s, ρ[i]? = some (some s) ∧ SkR (2 + rest.length) μ x s
  inj : ∀ (i j : Nat) (xs ys : List PyData) (t : Nat), l[i]? = some (some (.mt xs)) → l[j]? = some (some (.mt ys)) → ρ[i]? = some (some (.ref t)) → ρ[j]? = some (some (.ref t)) → i = j
/-- fewer slots are known -/
inductive Wkn : En → En → Prop
  | nil : Wkn [] []
  | drop {a : Option Sk} {l l' : En} (h : Wkn l l') : Wkn (a :: l) (none :: l')
  | keep {a : Option Sk} {l l' : En} (h : Wkn l l') : Wkn (a :: l) (a :: l')
theorem Wkn.len : ∀ {l l' : En}, Wkn l l' → l.length = l'.length
  | _, _, .nil => rfl
  | _, _, .drop h => by rw [List.length_cons, List.length_cons, h.len]
  | _, _, .keep h => by rw [List.length_cons, List.length_cons, h.len]
theorem Wkn.get : ∀ {l l' : En}, Wkn l l' → ∀ {i : Nat} {x : Sk}, l'[i]? = some (some x) → l[i]? = some (some x)
  | _, _, .nil, _, _, e => by simp at e
  | _, _, .drop h, 0, _, e => by simp at e
  | _, _, .drop h, i + 1, _, e => by
    rw [List.getElem?_cons_succ] at e ⊢
    exact h.get e
  | _, _, .keep h, 0, _, e => by simpa using e
  | _, _, .keep h, i + 1, _, e => by
    rw [List.getElem?_cons_succ] at e ⊢
    exact h.get e
theorem EnvR.weak {l l' : En} {k : Dk} {rest : Mu} {ρ : Rho} {μ : Mu} (h : EnvR l k rest ρ μ) (w : Wkn l l') : EnvR l' k rest ρ μ :=
  ⟨h.pre, by rw [h.len, w.len], fun i x e => h.at_ i x (w.get e), fun i j xs ys t e1 e2 => h.inj i j xs ys t (w.get e1) (w.get e2)⟩
theorem getE_set {α : Type} {l : List α} {i j : Nat} {x y : α} (h : (l.set i x)[j]? = some y) : (j = i ∧ y = x ∧ i < l.length) ∨ (j ≠ i ∧ l[j]? = some y) := by
  by_cases e : i = j
  · subst e
    have hl : i < l.length := by
      have := (List.getElem?_eq_some_iff.mp h).1
      simpa using this
    rw [List.getElem?_set_self hl] at h
    cases h
    exact .inl ⟨rfl, rfl, hl⟩
  · rw [List.getElem?_set_ne e] at h
    exact .inr ⟨fun z => e z.symm, h⟩
section
variable {l : En} {k : Dk} {rest : Mu} {ρ : Rho} {μ : Mu}
theorem EnvR.setI (h : EnvR l k rest ρ μ) (i : Nat) (d : PyData) : EnvR (l.set i (some (.im d))) k rest (ρ.set i (some (.dat d))) μ := by
  refine ⟨h.pre, by rw [List.length_set, List.length_set, h.len], fun j x e => ?_, fun a b xs ys t e1 e2 e3 e4 => ?_⟩
  · rcases getE_set e with ⟨rfl, e, hl⟩ | ⟨hj, e⟩
    · cases e
      exact ⟨_, List.getElem?_set_self (by rw [h.len]; exact hl), rfl⟩
    · obtain ⟨s, e1, e2⟩ := h.at_ j x e
      exact ⟨s, by rw [List.getElem?_set_ne fun z => hj z.symm]; exact e1, e2⟩
  · rcases getE_set e1 with ⟨_, z, _⟩ | ⟨ha, e1⟩
    · cases z
    rcases getE_set e2 with ⟨_, z, _⟩ | ⟨hb, e2⟩
    · cases z
    rw [List.getElem?_set_ne fun z => ha z.symm] at e3
    rw [List.getElem?_set_ne fun z => hb z.symm] at e4
    exact h.inj a b xs ys t e1 e2 e3 e4
theorem EnvR.unset {i : Nat} {d : PyData} (h : EnvR (l.set i (some (.im d))) k rest (ρ.set i (some (.dat d))) μ) (hi : l[i]? = some none) : EnvR l k rest ρ μ := by
  have ne : ∀ (j : Nat) (x : Sk), l[j]? = some (some x) → i ≠ j := fun j x e z => by
    subst z
    rw [hi] at e
    cases e
  refine ⟨h.pre, by have := h.len; rwa [List.length_set, List.length_set] at this, fun j x e => ?_, fun a b xs ys t e1 e2 e3 e4 => ?_⟩
  · have hj := ne j x e
    obtain ⟨s, e1, e2⟩ := h.at_ j x (by rw [List.getElem?_set_ne hj]; exact e)
    exact ⟨s, by rw [List.getElem?_set_ne hj] at e1; exact e1, e2⟩
  · have ha := ne a _ e1
    have hb := ne b _ e2
    exact h.inj a b xs ys t (by rw [List.getElem?_set_ne ha]; exact e1) (by rw [List.getElem?_set_ne hb]; exact e2) (by rw [List.getElem?_set_ne ha]; exact e3) (by rw [List.getElem?_set_ne hb]; exact e4)
/-- a new tagged list -/
theorem EnvR.more (h : EnvR l k rest ρ μ) (o : MObj) : EnvR l k rest ρ (μ ++ [o]) := by
  obtain ⟨g, hg⟩ := h.pre
  refine ⟨⟨g ++ [o], by rw [hg, List.append_assoc]⟩, h.len, fun i x e => ?_, h.inj⟩
  obtain ⟨s, e1, e2⟩ := h.at_ i x e
  refine ⟨s, e1, ?_⟩
  cases x with
  | im d => exact e2
  | dk => exact e2
  | tg t => exact e2
  | mt ds =>
    obtain ⟨t, a, b, c⟩ := e2
    exact ⟨t, a, b, by rw [List.getElem?_append_left (List.getElem?_eq_some_iff.mp c).1]; exact c⟩
theorem EnvR.base (h : EnvR l k rest ρ μ) : 2 + rest.length ≤ μ.length := by
  obtain ⟨g, hg⟩ := h.pre
  rw [hg]
  simp [dkO]
  omega
theorem EnvR.setM (h : EnvR l k rest ρ μ) (i : Nat) (ds : List PyData) : EnvR (l.set i (some (.mt ds))) k rest (ρ.set i (some (.ref μ.length))) (μ ++ [.lst (ds.map Sv.dat)]) := by
  have h2 := h.more (.lst (ds.map Sv.dat))
  have old : ∀ (j : Nat) (xs : List PyData) (t : Nat), l[j]? = some (some (.mt xs)) → ρ[j]? = some (some (.ref t)) → t < μ.length := fun j xs t e1 e2 => by
    obtain ⟨s, a, t', b, c, d⟩ := h.at_ j _ e1
    rw [a] at e2
    cases e2
    cases b
    exact (List.getElem?_eq_some_iff.mp d).1
  refine ⟨h2.pre, by rw [List.length_set, List.length_set, h.len], fun j x e => ?_, fun a b xs ys t e1 e2 e3 e4 => ?_⟩
  · rcases getE_set e with ⟨rfl, e, hl⟩ | ⟨hj, e⟩
    · cases e
      refine ⟨_, List.getElem?_set_self (by rw [h.len]; exact hl), _, rfl, h.base, ?_⟩
      rw [List.getElem?_append_right (Nat.le_refl _), Nat.sub_self]
      rfl
    · obtain ⟨s, e1, e2⟩ := h2.at_ j x e
      exact ⟨s, by rw [List.getElem?_set_ne fun z => hj z.symm]; exact e1, e2⟩
  · rcases getE_set e1 with ⟨ha, z, hl⟩ | ⟨ha, q1⟩
    · rcases getE_set e2 with ⟨hb, z2, _⟩ | ⟨hb, q2⟩
      · rw [ha, hb]
      · subst ha
        rw [List.getElem?_set_self (by rw [h.len]; exact hl)] at e3
        rw [List.getElem?_set_ne fun z => hb z.symm] at e4
        cases e3
        exact absurd (old b ys _ q2 e4) (Nat.lt_irrefl _)
    · skip
      rw [List.getElem?_set_ne fun z => ha z.symm] at e3
      rcases getE_set e2 with ⟨hb, z2, hl⟩ | ⟨hb, q2⟩
      · subst hb
        rw [List.getElem?_set_self (by rw [h.len]; exact hl)] at e4
        cases e4
        exact absurd (old a xs _ q1 e3) (Nat.lt_irrefl _)
      · rw [List.getElem?_set_ne fun z => hb z.symm] at e4
        exact h.inj a b xs ys t q1 q2 e3 e4
/-- a tagged list of a slot is written -/
theorem EnvR.write (h : EnvR l k rest ρ μ) {i t : Nat} {xs : List PyData} (hi : l[i]? = some (some (.mt xs))) (hr : ρ[i]? = some (some (.ref t))) (ds : List PyData) : EnvR (l.set i (some (.mt ds))) k rest ρ (μ.set t (.lst (ds.map Sv.dat))) := by
  obtain ⟨s, a, t', b, c, d⟩ := h.at_ i _ hi
  rw [hr] at a
  cases a
  cases b
  have ht : t < μ.length := (List.getElem?_eq_some_iff.mp d).1
  refine ⟨?_, by rw [List.length_set, h.len], fun j x e => ?_, fun a b ys zs u e1 e2 e3 e4 => ?_⟩
  · obtain ⟨g, hg⟩ := h.pre
    have hb : (dkO k ++ rest).length ≤ t := by
      rw [List.length_append]
      exact c
    exact ⟨g.set (t - (dkO k ++ rest).length) (.lst (ds.map Sv.dat)), by rw [hg, List.set_append_right _ _ hb]⟩
  · rcases getE_set e with ⟨rfl, e, hl⟩ | ⟨hj, e⟩
    · cases e
      exact ⟨_, hr, _, rfl, c, List.getElem?_set_self ht⟩
    · obtain ⟨s, e1, e2⟩ := h.at_ j x e
      refine ⟨s, e1, ?_⟩
      cases x with
      | im d => exact e2
      | dk => exact e2
      | tg t => exact e2
      | mt ds =>
        obtain ⟨u, z1, z2, z3⟩ := e2
        refine ⟨u, z1, z2, ?_⟩
        rw [List.getElem?_set_ne fun z => hj (h.inj j i _ _ u e hi (by rw [e1, z1]) (by rw [hr, z]))]
        exact z3
  · have up : ∀ (a : Nat) (ys : List PyData), (l.set i (some (.mt ds)))[a]? = some (some (.mt ys)) → ∃ zs, l[a]? = some (some (.mt zs)) := fun a ys e => by
      rcases getE_set e with ⟨rfl, _, _⟩ | ⟨_, e⟩
      · exact ⟨_, hi⟩
      · exact ⟨_, e⟩
    obtain ⟨_, e1⟩ := up a _ e1
    obtain ⟨_, e2⟩ := up b _ e2
    exact h.inj a b _ _ u e1 e2 e3 e4
end
/-! ### the judgement -/
abbrev Post (α β : Type) := Dk → Mu → Rho → Mu → α → β → Prop
def Jl {α β : Type} (k : Dk) (rest : Mu) (ρ : Rho) (μ : Mu) (m : M α) (t : S β) (P : Post α β) : Prop := ∀ r k', t k = some (r, k') → match r with
  | .ok b => ∃ a μ', m μ = some (.ok a μ') ∧ P k' rest ρ μ' a b
  | .ex c => ∃ g, m μ = some (.ex c.up (dkO k' ++ rest ++ g))
def Jd {α β : Type} (l : En) (F : Rho → M α) (t : S β) (P : Post α β) : Prop := ∀ k rest ρ μ, EnvR l k rest ρ μ → Jl k rest ρ μ (F ρ) t P
section
variable {α β γ δ : Type} {k : Dk} {rest : Mu} {ρ : Rho} {μ : Mu}
theorem Jl.bind {m : M α} {f : α → M γ} {t : S β} {u : β → S δ} {P : Post α β} {Q : Post γ δ} (h : Jl k rest ρ μ m t P) (hk : ∀ k' μ' a b, P k' rest ρ μ' a b → Jl k' rest ρ μ' (f a) (u b) Q) : Jl k rest ρ μ (m.bind f) (t.bind u) Q := by
  intro r k' e
  rcases S.bind_inv e with ⟨b, k1, e1, e2⟩ | ⟨c, e1, rfl⟩
  · obtain ⟨a, μ1, h1, h2⟩ := h _ _ e1
    have := hk k1 μ1 a b h2 r k' e2
    rw [bind_ok h1]
    exact this
  · obtain ⟨g, h1⟩ := h _ _ e1
    exact ⟨g, bind_ex h1⟩
theorem Jl.ret {a : α} {b : β} {P : Post α β} (h : P k rest ρ μ a b) : Jl k rest ρ μ (M.ret a) (S.ret b) P := by
  intro r k' e
  cases e
  exact ⟨a, μ, rfl, h⟩
theorem Jl.lift {m : M α} {o : Option β} {P : Post α β} (h : ∀ b, o = some b → ∃ a μ', m μ = some (.ok a μ') ∧ P k rest ρ μ' a b) : Jl k rest ρ μ m (S.lift o) P := by
  intro r k' e
  unfold S.lift at e
  cases o with
  | none => cases e
  | some b =>
    cases e
    exact h b rfl
/-- the second reading goes on without a step of the first one -/
theorem Jl.pre {m : M γ} {o : Option β} {u : β → S δ} {Q : Post γ δ} (h : ∀ b, o = some b → Jl k rest ρ μ m (u b) Q) : Jl k rest ρ μ m ((S.lift o).bind u) Q := by
  intro r k' e
  cases o with
  | none => cases e
  | some b => exact h b rfl r k' e
theorem Jl.weak {m : M α} {t : S β} {P Q : Post α β} (h : Jl k rest ρ μ m t P) (w : ∀ k' μ' a b, P k' rest ρ μ' a b → Q k' rest ρ μ' a b) : Jl k rest ρ μ m t Q := by
  intro r k' e
  have := h r k' e
  cases r with
  | ok b =>
    obtain ⟨a, μ', h1, h2⟩ := this
    exact ⟨a, μ', h1, w _ _ _ _ h2⟩
  | ex c => exact this
theorem Jl.eqM {m m' : M α} {t : S β} {P : Post α β} (h : Jl k rest ρ μ m t P) (e : m' = m) : Jl k rest ρ μ m' t P := e ▸ h
theorem M.bind_ret (m : M α) : m.bind M.ret = m := by
  funext μ
  exact set_at
theorem M.assoc (m : M α) (f : α → M β) (g : β → M γ) : (m.bind f).bind g = m.bind fun a => (f a).bind g := by
  funext μ
  unfold M.bind
  cases m μ with
  | none => rfl
  | some x => cases x <;> rfl
end
/-- what is read: data, or a tagged list of data -/
def Rdr (μ : Mu) (s : Sv) (d : PyData) : Prop := s = .dat d ∨ ∃ t ds, s = .ref t ∧ μ[t]? = some (.lst (ds.map Sv.dat)) ∧ d = .list ds
theorem Rdr.dat {μ : Mu} {d : PyData} : Rdr μ (.dat d) d := .inl rfl
theorem Rdr.rd {μ : Mu} {s : Sv} {d : PyData} (h : Rdr μ s d) : rd s μ = some (.ok d μ) := by
  rcases h with rfl | ⟨t, ds, rfl, e, rfl⟩
  · rfl
  · unfold Pf.rd
    simp only [e, dats_map]
    rfl
theorem Rdr.ls {μ : Mu} {s : Sv} {ds : List PyData} (h : Rdr μ s (.list ds)) : lsOf s μ = some (.ok (ds.map Sv.dat) μ) := by
  rcases h with rfl | ⟨t, ds', rfl, e, z⟩
  · rfl
  · cases z
    unfold lsOf
    simp only [e]
theorem Rdr.imm {μ : Mu} {s : Sv} {d : PyData} (h : Rdr μ s d) (hd : ∀ ds, d ≠ .list ds) : s = .dat d := by
  rcases h with rfl | ⟨t, ds, rfl, e, rfl⟩
  · rfl
  · exact absurd rfl (hd ds)
end Pf

namespace Pf
open PySem PySem.Spec PyProof.Rows L2
/-! ### expressions -/
section
variable {l l1 l2 l3 : En} {Fa Fb Fc : Rho → M Sv} {ta tb tc : S PyData}
abbrev pV (l : En) : Post Sv PyData := fun k rest ρ μ a d => a = .dat d ∧ EnvR l k rest ρ μ
abbrev pW (l : En) : Post Sv PyData := fun k rest ρ μ a d => Rdr μ a d ∧ EnvR l k rest ρ μ
abbrev pB (l : En) : Post Bool Bool := fun k rest ρ μ a d => a = d ∧ EnvR l k rest ρ μ
abbrev pA (n : Nat) (l : En) : Post (List Sv) (List PyData) := fun k rest ρ μ a d => a = d.map Sv.dat ∧ d.length = n ∧ EnvR l k rest ρ μ
abbrev pL (l : En) : Post (List PyData) (List PyData) := fun k rest ρ μ a d => a = d ∧ EnvR l k rest ρ μ
theorem e_w {t : S PyData} (h : Jd l Fa t (pV l1)) : Jd l Fa t (pW l1) := fun k rest ρ μ e => (h k rest ρ μ e).weak fun _ _ _ _ ⟨z, q⟩ => ⟨z ▸ .dat, q⟩
theorem e_slot (i : Nat) {d : PyData} (h : l[i]? = some (some (.im d))) : Jd l (slot i) (S.ret d) (pV l) := fun k rest ρ μ e => by
  obtain ⟨s, h1, h2⟩ := e.at_ i _ h
  cases h2
  intro r k' q
  cases q
  refine ⟨_, μ, ?_, rfl, e⟩
  unfold slot
  rw [h1]
  rfl
theorem slot_at {i : Nat} {ρ : Rho} {s : Sv} (μ : Mu) (h : ρ[i]? = some (some s)) : slot i ρ μ = some (.ok s μ) := by
  unfold slot
  rw [h]
  rfl
theorem e_slotW (i : Nat) {ds : List PyData} (h : l[i]? = some (some (.mt ds))) : Jd l (slot i) (S.ret (.list ds)) (pW l) := fun k rest ρ μ e => by
  obtain ⟨s, h1, t, rfl, h3, h4⟩ := e.at_ i _ h
  intro r k' q
  cases q
  exact ⟨_, μ, slot_at μ h1, .inr ⟨t, ds, rfl, h4, rfl⟩, e⟩
theorem e_con (d : PyData) : Jd l (con d) (S.ret d) (pV l) := fun k rest ρ μ e => Jl.ret ⟨rfl, e⟩
/-! operators -/
def Op2 (op : Sv → Sv → M Sv) (o : PyData → PyData → Option PyData) : Prop := ∀ a b da db d μ, Rdr μ a da → Rdr μ b db → o da db = some d → op a b μ = some (.ok (.dat d) μ)
def OpB (op : Sv → Sv → M Sv) (c : PyData → PyData → Option Bool) : Prop := ∀ a b da db d μ, Rdr μ a da → Rdr μ b db → c da db = some d → op a b μ = some (.ok (.dat (.bool d)) μ)
variable {op op' : Sv → Sv → M Sv} {o : PyData → PyData → Option PyData} {c c' : PyData → PyData → Option Bool}
def asB2 (f : Option Bool) : Option PyData := f.map PyData.bool
theorem OpB.val (h : OpB op c) : Op2 op fun a b => asB2 (c a b) := fun a b da db d μ ra rb e => by
  cases q : c da db with
  | none =>
    simp only [asB2, q] at e
    cases e
  | some z =>
    simp only [asB2, q] at e
    cases e
    exact h a b da db z μ ra rb q
theorem e_bin (ho : Op2 op o) (ha : Jd l Fa ta (pV l1)) (hb : Jd l1 Fb tb (pW l2)) : Jd l (bin op Fa Fb) (ta.bind fun a => tb.bind fun b => S.lift (o a b)) (pV l2) := fun k rest ρ μ e => by
  refine (ha k rest ρ μ e).bind fun k1 μ1 a da ⟨z, e1⟩ => ?_
  subst z
  refine (hb k1 rest ρ μ1 e1).bind fun k2 μ2 b db ⟨rb, e2⟩ => ?_
  exact Jl.lift fun d q => ⟨_, μ2, ho _ _ da db d μ2 .dat rb q, rfl, e2⟩
def Op2D (op : Sv → Sv → M Sv) (o : PyData → PyData → Option PyData) : Prop := ∀ da db d μ, o da db = some d → op (.dat da) (.dat db) μ = some (.ok (.dat d) μ)
theorem e_binD (ho : Op2D op o) (ha : Jd l Fa ta (pV l1)) (hb : Jd l1 Fb tb (pV l2)) : Jd l (bin op Fa Fb) (ta.bind fun a => tb.bind fun b => S.lift (o a b)) (pV l2) := fun k rest ρ μ e => by
  refine (ha k rest ρ μ e).bind fun k1 μ1 a da ⟨z, e1⟩ => ?_
  subst z
  refine (hb k1 rest ρ μ1 e1).bind fun k2 μ2 b db ⟨rb, e2⟩ => ?_
  subst rb
  exact Jl.lift fun d q => ⟨_, μ2, ho da db d μ2 q, rfl, e2⟩
theorem e_binB (ho : OpB op c) (ha : Jd l Fa ta (pV l1)) (hb : Jd l1 Fb tb (pW l2)) : Jd l (bin op Fa Fb) (ta.bind fun a => tb.bind fun b => S.lift (asB2 (c a b))) (pV l2) := e_bin ho.val ha hb
theorem u_bin (ho : OpB op c) (ha : Jd l Fa ta (pV l1)) (hb : Jd l1 Fb tb (pW l2)) : Jd l (tst (bin op Fa Fb)) (ta.bind fun a => tb.bind fun b => S.lift (c a b)) (pB l2) := fun k rest ρ μ e => by
  refine Jl.eqM (m := (Fa ρ).bind fun a => (Fb ρ).bind fun b => (op a b).bind asB) ((ha k rest ρ μ e).bind fun k1 μ1 a da ⟨z, e1⟩ => ?_) ?_
  · subst z
    refine (hb k1 rest ρ μ1 e1).bind fun k2 μ2 b db ⟨rb, e2⟩ => ?_
    refine Jl.lift fun d q => ⟨d, μ2, ?_, rfl, e2⟩
    rw [bind_ok (ho _ _ da db d μ2 .dat rb q)]
    rfl
  · unfold tst bin
    rw [M.assoc]
    congr 1
    funext a
    rw [M.assoc]
def bAnd (a : Bool) (t : S Bool) : S Bool := if a = true then t else S.ret false
def bOr (a : Bool) (t : S Bool) : S Bool := if a = true then S.ret true else t
theorem Jl.ite {α β : Type} {k : Dk} {rest : Mu} {ρ : Rho} {μ : Mu} {c : Bool} {m m' : M α} {t t' : S β} {P : Post α β} (h1 : Jl k rest ρ μ m t P) (h2 : Jl k rest ρ μ m' t' P) : Jl k rest ρ μ (if c = true then m else m') (if c = true then t else t') P := by
  cases c with
  | false =>
    rw [if_neg Bool.false_ne_true, if_neg Bool.false_ne_true]
    exact h2
  | true =>
    rw [if_pos rfl, if_pos rfl]
    exact h1
theorem u_chain (ho : OpB op c) (ho' : OpB op' c') (ha : Jd l Fa ta (pV l1)) (hb : Jd l1 Fb tb (pV l2)) (hc : Jd l2 Fc tc (pW l2)) :
    Jd l (tst (chain op op' Fa Fb Fc)) (ta.bind fun a => tb.bind fun b => (S.lift (c a b)).bind fun z => bAnd z (tc.bind fun d => S.lift (c' b d))) (pB l2) := fun k rest ρ μ e => by
  refine Jl.eqM (m := (Fa ρ).bind fun a => (Fb ρ).bind fun b => (op a b).bind fun z => (asB z).bind fun k => if k = true then (Fc ρ).bind fun c => (op' b c).bind asB else M.ret false) ((ha k rest ρ μ e).bind fun k1 μ1 a da ⟨z, e1⟩ => ?_) ?_
  · subst z
    refine (hb k1 rest ρ μ1 e1).bind fun k2 μ2 b db ⟨z, e2⟩ => ?_
    subst z
    refine Jl.pre fun d q => ?_
    have q2 : ∀ f : Sv → M Bool, (op (.dat da) (.dat db)).bind f μ2 = f (.dat (.bool d)) μ2 := fun f => bind_ok (ho _ _ da db d μ2 .dat .dat q)
    intro r k' h
    rw [q2]
    refine (Jl.ite (c := d) (P := pB l2) ?_ ?_) r k' h
    · refine (hc k2 rest ρ μ2 e2).bind fun k3 μ3 g dg ⟨rg, e3⟩ => ?_
      refine Jl.lift fun d2 q => ⟨d2, μ3, ?_, rfl, e3⟩
      rw [bind_ok (ho' _ _ db dg d2 μ3 .dat rg q)]
      rfl
    · exact Jl.ret ⟨rfl, e2⟩
  · unfold tst chain
    rw [M.assoc]
    congr 1
    funext a
    rw [M.assoc]
    congr 1
    funext b
    rw [M.assoc]
    congr 1
    funext z
    rw [M.assoc]
    congr 1
    funext k
    cases k with
    | false => rfl
    | true =>
      rw [if_pos rfl, if_pos rfl, M.assoc]
theorem u_or {F G : Rho → M Bool} {t u : S Bool} (h : Jd l F t (pB l1)) (h2 : Jd l1 G u (pB l1)) : Jd l (orT F G) (t.bind fun a => bOr a u) (pB l1) := fun k rest ρ μ e => by
  refine (h k rest ρ μ e).bind fun k1 μ1 a da ⟨z, e1⟩ => ?_
  subst z
  exact Jl.ite (Jl.ret ⟨rfl, e1⟩) (h2 k1 rest ρ μ1 e1)
theorem u_not {F : Rho → M Bool} {t : S Bool} (h : Jd l F t (pB l1)) : Jd l (notT F) (t.bind fun a => S.ret (!a)) (pB l1) := fun k rest ρ μ e => by
  refine (h k rest ρ μ e).bind fun k1 μ1 a da ⟨z, e1⟩ => ?_
  subst z
  exact Jl.ret ⟨rfl, e1⟩
def toB : PyData → Option Bool
  | .bool b => some b
  | _ => none
theorem u_val (h : Jd l Fa ta (pV l1)) : Jd l (tst Fa) (ta.bind fun a => S.lift (toB a)) (pB l1) := fun k rest ρ μ e => by
  refine (h k rest ρ μ e).bind fun k1 μ1 a da ⟨z, e1⟩ => ?_
  subst z
  refine Jl.lift fun b q => ?_
  cases da <;> cases q
  exact ⟨_, μ1, rfl, rfl, e1⟩
theorem e_not (h : Jd l Fa ta (pV l1)) : Jd l (notV Fa) (ta.bind fun a => (S.lift (toB a)).bind fun b => S.ret (.bool (!b))) (pV l1) := fun k rest ρ μ e => by
  refine (h k rest ρ μ e).bind fun k1 μ1 a da ⟨z, e1⟩ => ?_
  subst z
  refine Jl.pre fun b q => ?_
  cases da <;> cases q
  intro r k' q
  cases q
  exact ⟨_, μ1, rfl, rfl, e1⟩
def dAnd (a : Bool) (t : S PyData) : S PyData := if a = true then t else S.ret (.bool false)
theorem e_and (h : Jd l Fa ta (pV l1)) (h2 : Jd l1 Fb tb (pV l1)) : Jd l (andV Fa Fb) (ta.bind fun a => (S.lift (toB a)).bind fun z => dAnd z tb) (pV l1) := fun k rest ρ μ e => by
  refine (h k rest ρ μ e).bind fun k1 μ1 a da ⟨z, e1⟩ => ?_
  subst z
  refine Jl.pre fun b q => ?_
  cases da <;> cases q
  exact Jl.ite (h2 k1 rest ρ μ1 e1) (Jl.ret ⟨rfl, e1⟩)
def oNeg : PyData → Option PyData
  | .int i => some (.int (-i))
  | _ => none
theorem e_neg (h : Jd l Fa ta (pV l1)) : Jd l (negV Fa) (ta.bind fun a => S.lift (oNeg a)) (pV l1) := fun k rest ρ μ e => by
  refine (h k rest ρ μ e).bind fun k1 μ1 a da ⟨z, e1⟩ => ?_
  subst z
  refine Jl.lift fun b q => ?_
  cases da <;> cases q
  exact ⟨_, μ1, rfl, rfl, e1⟩
/-! displays, calls -/
theorem a_nil' : Jd l argN (S.ret []) (pA 0 l) := fun k rest ρ μ e => Jl.ret ⟨rfl, rfl, e⟩
theorem a_cons' {Fs : Rho → M (List Sv)} {ts : S (List PyData)} {n : Nat} (h : Jd l Fa ta (pV l1)) (h2 : Jd l1 Fs ts (pA n l2)) : Jd l (argC Fa Fs) (ta.bind fun a => ts.bind fun as => S.ret (a :: as)) (pA (n + 1) l2) := fun k rest ρ μ e => by
  refine (h k rest ρ μ e).bind fun k1 μ1 a da ⟨z, e1⟩ => ?_
  subst z
  refine (h2 k1 rest ρ μ1 e1).bind fun k2 μ2 as ds ⟨z, hn, e2⟩ => ?_
  subst z
  exact Jl.ret ⟨rfl, by rw [List.length_cons, hn], e2⟩
theorem e_tup {Fs : Rho → M (List Sv)} {ts : S (List PyData)} {n : Nat} (h : Jd l Fs ts (pA n l1)) (hn : szOk n = true := by rfl) : Jd l (tupV Fs) (ts.bind fun as => S.ret (.tuple as)) (pV l1) := fun k rest ρ μ e => by
  refine (h k rest ρ μ e).bind fun k1 μ1 as ds ⟨z, hl, e1⟩ => ?_
  subst z
  intro r k' q
  cases q
  refine ⟨_, μ1, ?_, rfl, e1⟩
  rw [List.length_map, hl, if_pos hn]
  unfold mkt
  rw [dats_map]
  rfl
theorem e_lst {Fs : Rho → M (List Sv)} {ts : S (List PyData)} {n : Nat} (h : Jd l Fs ts (pA n l1)) (hn : szOk n = true := by rfl) : Jd l (lstV false Fs) (ts.bind fun as => S.ret (.list as)) (pV l1) := fun k rest ρ μ e => by
  refine (h k rest ρ μ e).bind fun k1 μ1 as ds ⟨z, hl, e1⟩ => ?_
  subst z
  intro r k' q
  cases q
  refine ⟨_, μ1, ?_, rfl, e1⟩
  rw [List.length_map, hl, if_pos hn]
  exact mkl_dat ds μ1
def Bl1 (op : List Sv → M Sv) (o : PyData → Option PyData) : Prop := ∀ a da d μ, Rdr μ a da → o da = some d → op [a] μ = some (.ok (.dat d) μ)
def Bl2 (op : List Sv → M Sv) (o : PyData → PyData → Option PyData) : Prop := ∀ da db d μ, o da db = some d → op [.dat da, .dat db] μ = some (.ok (.dat d) μ)
theorem e_bl1 {op : List Sv → M Sv} {o : PyData → Option PyData} (ho : Bl1 op o) (ha : Jd l Fa ta (pW l1)) : Jd l (callV op (argC Fa argN)) (ta.bind fun a => S.lift (o a)) (pV l1) := fun k rest ρ μ e => by
  refine Jl.eqM (m := (Fa ρ).bind fun a => op [a]) ((ha k rest ρ μ e).bind fun k1 μ1 a da ⟨ra, e1⟩ => ?_) ?_
  · exact Jl.lift fun d q => ⟨_, μ1, ho a da d μ1 ra q, rfl, e1⟩
  · unfold callV argC
    rw [M.assoc]
    rfl
theorem e_bl2 {op : List Sv → M Sv} {o : PyData → PyData → Option PyData} (ho : Bl2 op o) (ha : Jd l Fa ta (pV l1)) (hb : Jd l1 Fb tb (pV l2)) : Jd l (callV op (argC Fa (argC Fb argN))) (ta.bind fun a => tb.bind fun b => S.lift (o a b)) (pV l2) := fun k rest ρ μ e => by
  refine Jl.eqM (m := (Fa ρ).bind fun a => (Fb ρ).bind fun b => op [a, b]) ((ha k rest ρ μ e).bind fun k1 μ1 a da ⟨ra, e1⟩ => ?_) ?_
  · subst ra
    refine (hb k1 rest ρ μ1 e1).bind fun k2 μ2 b db ⟨rb, e2⟩ => ?_
    subst rb
    exact Jl.lift fun d q => ⟨_, μ2, ho da db d μ2 q, rfl, e2⟩
  · unfold callV argC
    rw [M.assoc]
    congr 1
    funext a
    rw [M.assoc, M.assoc]
    rfl
end
end Pf

namespace Pf
open PySem PySem.Spec PyProof.Rows L2
/-! ### targets -/
section
variable {l l1 l2 : En} {Fa Fb Fc : Rho → M Sv} {ta tb tc : S PyData} {σ τ : Type}
abbrev pT (e : σ → En) : Post Rho σ := fun k rest _ μ ρ' s => EnvR (e s) k rest ρ' μ
/-- .. of a comprehension: what was known before can be known again -/
abbrev pTc (l : En) (e : σ → En) : Post Rho σ := fun k rest ρ μ ρ' s => EnvR (e s) k rest ρ' μ ∧ ∀ k2 μ2, EnvR (e s) k2 rest ρ' μ2 → EnvR l k2 rest ρ μ2
def un2 : PyData → Option (PyData × PyData)
  | .tuple [a, b] => some (a, b)
  | _ => none
theorem un2_some {d : PyData} {p : PyData × PyData} (h : un2 d = some p) : d = .tuple [p.1, p.2] := by
  unfold un2 at h
  split at h
  · cases h
    rfl
  · cases h
theorem tg_nm (i : Nat) (d : PyData) : Jd l (gNm i (.dat d)) (S.ret d) (pT fun d => l.set i (some (.im d))) := fun k rest ρ μ e => Jl.ret (e.setI i d)
theorem tc_nm (i : Nat) (d : PyData) (h : l[i]? = some none) : Jd l (gNm i (.dat d)) (S.ret d) (pTc l fun d => l.set i (some (.im d))) := fun k rest ρ μ e => Jl.ret ⟨e.setI i d, fun _ _ q => q.unset h⟩
theorem tg_tp2 {T1 T2 : Sv → Rho → M Rho} {u1 : PyData → S σ} {u2 : PyData → S τ} {e1 : σ → En} {e2 : σ → τ → En} (d : PyData) (h1 : ∀ a, Jd l (T1 (.dat a)) (u1 a) (pT e1)) (h2 : ∀ s b, Jd (e1 s) (T2 (.dat b)) (u2 b) (pT (e2 s))) :
    Jd l (gTp 2 (gsCons T1 (gsCons T2 gsNil)) (.dat d)) ((S.lift (un2 d)).bind fun p => (u1 p.1).bind fun s => (u2 p.2).bind fun s' => S.ret (s, s')) (pT fun s => e2 s.1 s.2) := fun k rest ρ μ e => Jl.pre fun p q => by
  rw [un2_some q]
  refine Jl.eqM (m := (T1 (.dat p.1) ρ).bind fun ρ' => T2 (.dat p.2) ρ') ((h1 p.1 k rest ρ μ e).bind fun k1 μ1 ρ1 s r1 => ?_) ?_
  · have := h2 s p.2 k1 rest ρ1 μ1 r1
    intro r k' z
    rcases S.bind_inv z with ⟨s', k2, z1, z2⟩ | ⟨c, z1, rfl⟩
    · cases z2
      obtain ⟨a, μ', w1, w2⟩ := this _ _ z1
      exact ⟨a, μ', w1, w2⟩
    · exact this _ _ z1
  · show M.bind _ _ = _
    congr 1
    funext ρ'
    exact M.bind_ret _
theorem tc_tp2 {T1 T2 : Sv → Rho → M Rho} {u1 : PyData → S σ} {u2 : PyData → S τ} {e1 : σ → En} {e2 : σ → τ → En} (d : PyData) (h1 : ∀ a, Jd l (T1 (.dat a)) (u1 a) (pTc l e1)) (h2 : ∀ s b, Jd (e1 s) (T2 (.dat b)) (u2 b) (pTc (e1 s) (e2 s))) :
    Jd l (gTp 2 (gsCons T1 (gsCons T2 gsNil)) (.dat d)) ((S.lift (un2 d)).bind fun p => (u1 p.1).bind fun s => (u2 p.2).bind fun s' => S.ret (s, s')) (pTc l fun s => e2 s.1 s.2) := fun k rest ρ μ e => Jl.pre fun p q => by
  rw [un2_some q]
  refine Jl.eqM (m := (T1 (.dat p.1) ρ).bind fun ρ' => T2 (.dat p.2) ρ') ((h1 p.1 k rest ρ μ e).bind fun k1 μ1 ρ1 s r1 => ?_) ?_
  · have := h2 s p.2 k1 rest ρ1 μ1 r1.1
    intro r k' z
    rcases S.bind_inv z with ⟨s', k2, z1, z2⟩ | ⟨c, z1, rfl⟩
    · cases z2
      obtain ⟨a, μ', w1, w2⟩ := this _ _ z1
      exact ⟨a, μ', w1, w2.1, fun k2 μ2 h => r1.2 k2 μ2 (w2.2 k2 μ2 h)⟩
    · exact this _ _ z1
  · show M.bind _ _ = _
    congr 1
    funext ρ'
    exact M.bind_ret _
/-! ### statements that go on -/
abbrev pN (e : σ → En) : Post Out σ := fun k rest _ μ a s => ∃ ρ', a = .nx ρ' ∧ EnvR (e s) k rest ρ' μ
abbrev based (k : Dk) (rest μ : Mu) : Prop := ∃ g, μ = dkO k ++ rest ++ g
abbrev pR : Post Out PyData := fun k rest _ μ a d => a = .rt (.dat d) ∧ based k rest μ
abbrev pE : Post Out PyData := fun k rest _ μ a d => (a = .rt (.dat d) ∨ ∃ ρ', a = .nx ρ' ∧ d = .none) ∧ based k rest μ
abbrev pM (l : En) : Post Sv (List PyData) := fun k rest ρ μ a ds => ∃ μ0, a = .ref μ0.length ∧ μ = μ0 ++ [.lst (ds.map Sv.dat)] ∧ EnvR l k rest ρ μ0
theorem Jl.same {α β : Type} {k : Dk} {rest : Mu} {ρ : Rho} {μ : Mu} {m : M α} {t : S β} {P : Post α β} (h : Jl k rest ρ μ m (t.bind S.ret) P) : Jl k rest ρ μ m t P := by
  rw [S.bind_ret] at h
  exact h
theorem s_setI (i : Nat) (h : Jd l Fa ta (pV l1)) : Jd l (gSet i Fa) ta (pN fun d => l1.set i (some (.im d))) := fun k rest ρ μ e => Jl.same <| by
  refine (h k rest ρ μ e).bind fun k1 μ1 a da ⟨z, e1⟩ => ?_
  subst z
  exact Jl.ret ⟨_, rfl, e1.setI i da⟩
theorem s_setM (i : Nat) {t : S (List PyData)} (h : Jd l Fa t (pM l1)) : Jd l (gSet i Fa) t (pN fun ds => l1.set i (some (.mt ds))) := fun k rest ρ μ e => Jl.same <| by
  refine (h k rest ρ μ e).bind fun k1 μ1 a ds ⟨μ0, z, z2, e1⟩ => ?_
  subst z z2
  exact Jl.ret ⟨_, rfl, e1.setM i ds⟩
theorem m_lst {Fs : Rho → M (List Sv)} {ts : S (List PyData)} {n : Nat} (h : Jd l Fs ts (pA n l1)) (hn : szOk n = true := by rfl) : Jd l (lstV true Fs) ts (pM l1) := fun k rest ρ μ e => Jl.same <| by
  refine (h k rest ρ μ e).bind fun k1 μ1 as ds ⟨z, hl, e1⟩ => ?_
  subst z
  intro r k' q
  cases q
  refine ⟨.ref μ1.length, μ1 ++ [.lst (ds.map Sv.dat)], ?_, μ1, rfl, rfl, e1⟩
  rw [List.length_map, hl, if_pos hn]
  rfl
theorem s_par' (i j : Nat) (ha : Jd l Fa ta (pV l1)) (hb : Jd l1 Fb tb (pV l2)) : Jd l (gPar i j (argC Fa (argC Fb argN))) (ta.bind fun a => tb.bind fun b => S.ret (a, b)) (pN fun p => (l2.set i (some (.im p.1))).set j (some (.im p.2))) := fun k rest ρ μ e => by
  refine Jl.eqM (m := (Fa ρ).bind fun a => (Fb ρ).bind fun b => M.ret (.nx ((ρ.set i (some a)).set j (some b)))) ((ha k rest ρ μ e).bind fun k1 μ1 a da ⟨ra, e1⟩ => ?_) ?_
  · subst ra
    refine (hb k1 rest ρ μ1 e1).bind fun k2 μ2 b db ⟨rb, e2⟩ => ?_
    subst rb
    exact Jl.ret ⟨_, rfl, (e2.setI i da).setI j db⟩
  · unfold gPar argC
    rw [M.assoc]
    congr 1
    funext a
    rw [M.assoc, M.assoc]
    rfl
theorem s_par3' (i j m : Nat) (ha : Jd l Fa ta (pV l1)) (hb : Jd l1 Fb tb (pV l2)) {l3 : En} (hc : Jd l2 Fc tc (pV l3)) : Jd l (gPar3 i j m (argC Fa (argC Fb (argC Fc argN)))) (ta.bind fun a => tb.bind fun b => tc.bind fun c => S.ret (a, b, c)) (pN fun p => ((l3.set i (some (.im p.1))).set j (some (.im p.2.1))).set m (some (.im p.2.2))) := fun k rest ρ μ e => by
  refine Jl.eqM (m := (Fa ρ).bind fun a => (Fb ρ).bind fun b => (Fc ρ).bind fun c => M.ret (.nx (((ρ.set i (some a)).set j (some b)).set m (some c)))) ((ha k rest ρ μ e).bind fun k1 μ1 a da ⟨ra, e1⟩ => ?_) ?_
  · subst ra
    refine (hb k1 rest ρ μ1 e1).bind fun k2 μ2 b db ⟨rb, e2⟩ => ?_
    subst rb
    refine (hc k2 rest ρ μ2 e2).bind fun k3 μ3 c dc ⟨rc, e3⟩ => ?_
    subst rc
    exact Jl.ret ⟨_, rfl, ((e3.setI i da).setI j db).setI m dc⟩
  · unfold gPar3 argC
    rw [M.assoc]
    congr 1
    funext a
    rw [M.assoc, M.assoc]
    congr 1
    funext b
    rw [M.assoc, M.assoc]
    rfl
theorem s_asg' {T : Sv → Rho → M Rho} {u : PyData → S σ} {e' : σ → En} (h : Jd l Fa ta (pV l1)) (hT : ∀ d, Jd l1 (T (.dat d)) (u d) (pT e')) : Jd l (gAsg Fa T) (ta.bind u) (pN e') := fun k rest ρ μ e => by
  refine (h k rest ρ μ e).bind fun k1 μ1 a da ⟨z, e1⟩ => Jl.same ?_
  subst z
  refine (hT da k1 rest ρ μ1 e1).bind fun k2 μ2 ρ2 s e2 => ?_
  exact Jl.ret ⟨_, rfl, e2⟩
def appD (ds : List PyData) (d : PyData) : Option (List PyData) := if ds.length + 1 ≤ 1000000 then some (ds ++ [d]) else none
theorem s_app (i : Nat) {ds0 ds : List PyData} (hi : l[i]? = some (some (.mt ds0))) (hb : Jd l Fb tb (pV l1)) (hj : l1[i]? = some (some (.mt ds))) : Jd l (gExpr (appV (slot i) Fb)) (tb.bind fun d => S.lift (appD ds d)) (pN fun ds' => l1.set i (some (.mt ds'))) := fun k rest ρ μ e => by
  obtain ⟨s, h1, t, rfl, h3, h4⟩ := e.at_ i _ hi
  have tg : ∀ {μ2 : Mu} {xs : List PyData}, μ2[t]? = some (.lst (xs.map Sv.dat)) → tagOf (.ref t) μ2 = some (.ok (t, xs.map Sv.dat) μ2) := fun {μ2 xs} h4 => by
    unfold tagOf
    simp only [h4]
  intro r k' q
  have z : gExpr (appV (slot i) Fb) ρ μ = ((Fb ρ).bind fun x => ((tagOf (.ref t)).bind fun z => if szOk (z.2.length + 1) = true then (wrt z.1 (z.2 ++ [x])).bind fun _ => M.ret (Sv.dat .none) else M.fail).bind fun _ => M.ret (.nx ρ)) μ := by
    unfold gExpr appV
    rw [M.assoc, bind_ok (slot_at μ h1), M.assoc, bind_ok (tg h4), M.assoc]
  have main : Jl k rest ρ μ ((Fb ρ).bind fun x => ((tagOf (.ref t)).bind fun z => if szOk (z.2.length + 1) = true then (wrt z.1 (z.2 ++ [x])).bind fun _ => M.ret (Sv.dat .none) else M.fail).bind fun _ => M.ret (.nx ρ)) (tb.bind fun d => S.lift (appD ds d)) (pN fun ds' => l1.set i (some (.mt ds'))) := by
    refine (hb k rest ρ μ e).bind fun k2 μ2 b db ⟨rb, e2⟩ => ?_
    subst rb
    obtain ⟨s', h1', t', rfl, h3', h4'⟩ := e2.at_ i _ hj
    rw [h1] at h1'
    cases h1'
    refine Jl.lift fun ds' q => ?_
    unfold appD at q
    split at q
    · rename_i hsz
      cases q
      refine ⟨.nx ρ, μ2.set t (.lst ((ds ++ [db]).map Sv.dat)), ?_, ρ, rfl, e2.write hj h1 _⟩
      have sz : szOk ((ds.map Sv.dat).length + 1) = true := decide_eq_true (by rw [List.length_map]; exact hsz)
      rw [M.assoc, bind_ok (tg h4')]
      dsimp only
      rw [if_pos sz, List.map_append]
      rfl
    · cases q
  have := main r k' q
  rw [z]
  exact this
/-! ### blocks -/
theorem n_end {G : Rho → M Out} {t : S σ} {e : σ → En} {e' : τ → En} (f : σ → τ) (h : Jd l G t (pN e)) (w : ∀ s, Wkn (e s) (e' (f s))) : Jd l G (t.bind fun s => S.ret (f s)) (pN e') := fun k rest ρ μ q r k' z => by
  rcases S.bind_inv z with ⟨s, k1, z1, z2⟩ | ⟨c, z1, rfl⟩
  · cases z2
    obtain ⟨a, μ', w1, ρ', w2, w3⟩ := h k rest ρ μ q _ _ z1
    exact ⟨a, μ', w1, ρ', w2, w3.weak (w s)⟩
  · exact h k rest ρ μ q _ _ z1
theorem n_skip {e' : τ → En} (s : τ) (w : Wkn l (e' s)) : Jd l gSkip (S.ret s) (pN e') := fun k rest ρ μ q => Jl.ret ⟨ρ, rfl, q.weak w⟩
/-- one statement after another -/
theorem r_seq {β : Type} {G G' : Rho → M Out} {t : S σ} {u : σ → S β} {e : σ → En} {P : Dk → Mu → Mu → Out → β → Prop} (h : Jd l G t (pN e)) (h2 : ∀ s, Jd (e s) G' (u s) fun k rest _ μ a b => P k rest μ a b) : Jd l (gSeq G G') (t.bind u) fun k rest _ μ a b => P k rest μ a b := fun k rest ρ μ q => by
  refine (h k rest ρ μ q).bind fun k1 μ1 a s ⟨ρ', z, q1⟩ => ?_
  subst z
  exact h2 s k1 rest ρ' μ1 q1
theorem r_ret (h : Jd l Fa ta (pV l1)) : Jd l (gRet Fa) ta pR := fun k rest ρ μ e => Jl.same <| by
  refine (h k rest ρ μ e).bind fun k1 μ1 a da ⟨z, e1⟩ => ?_
  subst z
  exact Jl.ret ⟨rfl, e1.pre⟩
theorem r_e {G : Rho → M Out} {t : S PyData} (h : Jd l G t pR) : Jd l G t pE := fun k rest ρ μ q => (h k rest ρ μ q).weak fun _ _ _ _ ⟨a, b⟩ => ⟨.inl a, b⟩
/-- if .. return, and the rest -/
theorem r_ifR {F : Rho → M Bool} {G G' : Rho → M Out} {t : S Bool} {tG tR : S PyData} (h : Jd l F t (pB l1)) (h1 : Jd l1 G tG pR) (h2 : Jd l1 G' tR pR) : Jd l (gSeq (gIf F G gSkip) G') (t.bind fun a => if a = true then tG else tR) pR := fun k rest ρ μ e => by
  refine Jl.eqM (m := (F ρ).bind fun k => if k = true then (G ρ).bind (fun o => match o with | .nx ρ' => G' ρ' | o => M.ret o) else G' ρ) ((h k rest ρ μ e).bind fun k1 μ1 a da ⟨z, e1⟩ => ?_) ?_
  · subst z
    refine Jl.ite ?_ (h2 k1 rest ρ μ1 e1)
    refine Jl.same ((h1 k1 rest ρ μ1 e1).bind fun k2 μ2 a d ⟨z, b⟩ => ?_)
    subst z
    exact Jl.ret ⟨rfl, b⟩
  · unfold gSeq gIf
    rw [M.assoc]
    congr 1
    funext b
    cases b <;> rfl
theorem q_if {β : Type} {F : Rho → M Bool} {G G' : Rho → M Out} {t : S Bool} {tG tR : S β} {P : Post Out β} (h : Jd l F t (pB l1)) (h1 : Jd l1 G tG P) (h2 : Jd l1 G' tR P) : Jd l (gIf F G G') (t.bind fun a => if a = true then tG else tR) P := fun k rest ρ μ e => by
  refine (h k rest ρ μ e).bind fun k1 μ1 a da ⟨z, e1⟩ => ?_
  subst z
  exact Jl.ite (h1 k1 rest ρ μ1 e1) (h2 k1 rest ρ μ1 e1)
/-! ### flows -/
inductive Fl (σ : Type) where
  | nx (s : σ)
  | rt (d : PyData)
  | bk (s : σ)
  | ct (s : σ)
def pS (x : Bool) (e : σ → En) : Post Out (Fl σ) := fun k rest _ μ a s => match a, s with
  | .nx ρ', .nx s => x = true ∧ EnvR (e s) k rest ρ' μ
  | .rt v, .rt d => v = .dat d ∧ based k rest μ
  | .bk ρ', .bk s => EnvR (e s) k rest ρ' μ
  | .ct ρ', .ct s => EnvR (e s) k rest ρ' μ
  | _, _ => False
theorem f_ret {x : Bool} {e' : σ → En} (h : Jd l Fa ta (pV l1)) : Jd l (gRet Fa) (ta.bind fun d => S.ret (.rt d)) (pS x e') := fun k rest ρ μ e => by
  refine (h k rest ρ μ e).bind fun k1 μ1 a da ⟨z, e1⟩ => ?_
  subst z
  exact Jl.ret ⟨rfl, e1.pre⟩
theorem f_skip {e' : τ → En} (s : τ) (w : Wkn l (e' s)) : Jd l gSkip (S.ret (.nx s)) (pS true e') := fun k rest ρ μ q => Jl.ret ⟨rfl, q.weak w⟩
theorem f_seq {x : Bool} {G G' : Rho → M Out} {t : S σ} {u : σ → S (Fl τ)} {e : σ → En} {e' : τ → En} (h : Jd l G t (pN e)) (h2 : ∀ s, Jd (e s) G' (u s) (pS x e')) : Jd l (gSeq G G') (t.bind u) (pS x e') := fun k rest ρ μ q => by
  refine (h k rest ρ μ q).bind fun k1 μ1 a s ⟨ρ', z, q1⟩ => ?_
  subst z
  exact h2 s k1 rest ρ' μ1 q1
/-- if .. that leaves, and the rest -/
theorem f_if {x : Bool} {F : Rho → M Bool} {G G' : Rho → M Out} {t : S Bool} {tG tR : S (Fl τ)} {e' : τ → En} (h : Jd l F t (pB l1)) (h1 : Jd l1 G tG (pS false e')) (h2 : Jd l1 G' tR (pS x e')) : Jd l (gSeq (gIf F G gSkip) G') (t.bind fun a => if a = true then tG else tR) (pS x e') := fun k rest ρ μ e => by
  refine Jl.eqM (m := (F ρ).bind fun k => if k = true then (G ρ).bind (fun o => match o with | .nx ρ' => G' ρ' | o => M.ret o) else G' ρ) ((h k rest ρ μ e).bind fun k1 μ1 a da ⟨z, e1⟩ => ?_) ?_
  · subst z
    refine Jl.ite ?_ (h2 k1 rest ρ μ1 e1)
    refine Jl.same ((h1 k1 rest ρ μ1 e1).bind fun k2 μ2 a d p => ?_)
    unfold pS at p
    split at p
    · exact absurd p.1 Bool.false_ne_true
    · exact Jl.ret p
    · exact Jl.ret p
    · exact Jl.ret p
    · exact p.elim
  · unfold gSeq gIf
    rw [M.assoc]
    congr 1
    funext b
    cases b <;> rfl
/-- a loop that may return, and the rest of a body -/
def flR (o : Fl σ) (f : σ → S PyData) : S PyData := match o with
  | .nx s => f s
  | .rt d => S.ret d
  | _ => S.fail
theorem r_flow {G G' : Rho → M Out} {t : S (Fl σ)} {u : σ → S PyData} {e : σ → En} (h : Jd l G t (pS true e)) (h2 : ∀ s, Jd (e s) G' (u s) pR) : Jd l (gSeq G G') (t.bind fun o => flR o u) pR := fun k rest ρ μ q => by
  refine (h k rest ρ μ q).bind fun k1 μ1 a s p => ?_
  unfold pS at p
  split at p
  · exact h2 _ k1 rest _ μ1 p.2
  · obtain ⟨z, b⟩ := p
    subst z
    exact Jl.ret ⟨rfl, b⟩
  · exact fun r k' z => nomatch z
  · exact fun r k' z => nomatch z
  · exact p.elim
def flF (o : Fl σ) (f : σ → S (Fl τ)) : S (Fl τ) := match o with
  | .nx s => f s
  | .rt d => S.ret (.rt d)
  | _ => S.fail
theorem f_flow {x : Bool} {G G' : Rho → M Out} {t : S (Fl σ)} {u : σ → S (Fl τ)} {e : σ → En} {e' : τ → En} (h : Jd l G t (pS true e)) (h2 : ∀ s, Jd (e s) G' (u s) (pS x e')) : Jd l (gSeq G G') (t.bind fun o => flF o u) (pS x e') := fun k rest ρ μ q => by
  refine (h k rest ρ μ q).bind fun k1 μ1 a s p => ?_
  unfold pS at p
  split at p
  · exact h2 _ k1 rest _ μ1 p.2
  · obtain ⟨z, b⟩ := p
    subst z
    exact Jl.ret ⟨rfl, b⟩
  · exact fun r k' z => nomatch z
  · exact fun r k' z => nomatch z
  · exact p.elim
end
end Pf

set_option maxHeartbeats 1000000
namespace Pf
open PySem PySem.Spec PyProof.Rows L2
/-! ### zip of a tuple and a list, in any order -/
/-- true: a tuple, false: a list -/
def SqG (b : Bool) (K : PySem.W.Frag) (H : Hp) (a : Addr) (xs : List V) : Prop := match b with
  | true => SqT K H a xs
  | false => SqL K H a xs
def ItG (b : Bool) (h : Heap) (it a : Addr) (i : Nat) : Prop := match b with
  | true => h.IsTupleIter it a i
  | false => h.IsListIter it a i
def itObj (b : Bool) (a : Addr) : Obj := match b with
  | true => { cls := .type "tuple_iterator", data := .fields #[.ref a, .int 0 0] }
  | false => { cls := .type "list_iterator", data := .fields #[.ref a, .int 0 0] }
theorem ItG.obj {b : Bool} {h : Heap} {it a : Addr} {i : Nat} (x : ItG b h it a i) : ∃ o, h.get? it = some o ∧ ∀ v, o.data ≠ .cell v := by
  cases b with
  | true =>
    obtain ⟨o, e, _, d⟩ := x
    exact ⟨o, e, fun v q => by rw [d] at q; cases q⟩
  | false =>
    obtain ⟨o, e, _, d⟩ := x
    exact ⟨o, e, fun v q => by rw [d] at q; cases q⟩
theorem ItG.new {b : Bool} {h : Heap} {it a : Addr} (e : h.get? it = some (itObj b a)) : ItG b h it a 0 := by
  cases b with
  | true => exact ⟨_, e, rfl, rfl⟩
  | false => exact ⟨_, e, rfl, rfl⟩
section
variable {X : Cx} {pins : List (Addr × Obj)} {σ : L2.St} {H : Hp} {s : Shared} {a : Addr} {xs ys : List V} {b : Bool}
end
theorem SqG.mono {b : Bool} {K : PySem.W.Frag} {H H' : Hp} {a : Addr} {xs : List V} (e : Same H H') (h : SqG b K H a xs) : SqG b K H' a xs := by
  cases b with
  | true => exact seqT_mono e h
  | false => exact (match h with
      | .inl (.inl h) => .inl (.inl (e _ _ h))
      | .inl (.inr ⟨o, h⟩) => .inl (.inr ⟨o, e _ _ h⟩)
      | .inr h => .inr h)
/-! ### the reading -/
def sqKind : PyData → Option (Bool × List PyData)
  | .list ds => some (false, ds)
  | .tuple ds => some (true, ds)
  | _ => none
theorem Dq.sq {K : PySem.W.Frag} {H : Hp} {v : V} {d : PyData} {b : Bool} {ds : List PyData} (h : Dq K H v d) (e : sqKind d = some (b, ds)) : ∃ a vs, v = .ref a ∧ SqG b K H a vs ∧ Dqs K H vs ds := by
  cases h with
  | lst h r =>
    cases e
    exact ⟨_, _, rfl, SqL.of h, r⟩
  | tup h r =>
    cases e
    exact ⟨_, _, rfl, h, r⟩
  | _ => cases e
section
variable {X : Cx} {E : XK} {a b : Expr} {Fa Fb : Rho → M Sv} {pos p tpos : Pos}
end
end Pf

namespace Pf
open PySem PySem.Spec PyProof.Rows L2
/-! ### what is walked -/
section
variable {l l1 l2 : En} {Fa Fb Fc : Rho → M Sv} {ta tb tc : S PyData} {σ τ : Type}
def seqD : PyData → Option (List PyData)
  | .list ds => some ds
  | .tuple ds => some ds
  | _ => none
def rngD : PyData → Option (List PyData)
  | .int i => if big62 i = true then some (fromTo 0 i.toNat) else none
  | _ => none
def toI : PyData → Option Int
  | .int i => some i
  | _ => none
theorem w_seq (h : Jd l Fa ta (pV l1)) : Jd l (seqV Fa) (ta.bind fun a => S.lift (seqD a)) (pL l1) := fun k rest ρ μ e => by
  refine (h k rest ρ μ e).bind fun k1 μ1 a da ⟨z, e1⟩ => ?_
  subst z
  refine Jl.lift fun ds q => ?_
  cases da <;> cases q <;> exact ⟨_, μ1, rfl, rfl, e1⟩
theorem w_rng (h : Jd l Fa ta (pV l1)) : Jd l (rngV Fa) (ta.bind fun a => S.lift (rngD a)) (pL l1) := fun k rest ρ μ e => by
  refine (h k rest ρ μ e).bind fun k1 μ1 a da ⟨z, e1⟩ => ?_
  subst z
  refine Jl.lift fun ds q => ?_
  cases da with
  | int i =>
    dsimp only [rngD] at q
    by_cases hb : big62 i = true
    · rw [if_pos hb] at q
      cases q
      refine ⟨_, μ1, ?_, rfl, e1⟩
      show M.bind (M.ret i) _ μ1 = _
      rw [bind_ok (show M.ret i μ1 = some (.ok i μ1) from rfl), if_pos hb]
      rfl
    · rw [if_neg hb] at q
      cases q
  | _ => cases q
/-! ### comprehensions -/
def wipeE (l : En) : List Nat → En
  | [] => l
  | v :: vs => (wipeE l vs).set v none
theorem EnvR.wipe1 {k : Dk} {rest : Mu} {ρ : Rho} {μ : Mu} (h : EnvR l k rest ρ μ) (i : Nat) : EnvR (l.set i none) k rest (ρ.set i none) μ := by
  have sub : ∀ (j : Nat) (x : Sk), (l.set i none)[j]? = some (some x) → j ≠ i ∧ l[j]? = some (some x) := fun j x e => by
    rcases getE_set e with ⟨_, z, _⟩ | ⟨hj, e⟩
    · cases z
    · exact ⟨hj, e⟩
  refine ⟨h.pre, by rw [List.length_set, List.length_set, h.len], fun j x e => ?_, fun a b xs ys t e1 e2 e3 e4 => ?_⟩
  · obtain ⟨hj, e⟩ := sub j x e
    obtain ⟨s, e1, e2⟩ := h.at_ j x e
    exact ⟨s, by rw [List.getElem?_set_ne fun z => hj z.symm]; exact e1, e2⟩
  · obtain ⟨ha, e1⟩ := sub _ _ e1
    obtain ⟨hb, e2⟩ := sub _ _ e2
    rw [List.getElem?_set_ne fun z => ha z.symm] at e3
    rw [List.getElem?_set_ne fun z => hb z.symm] at e4
    exact h.inj a b xs ys t e1 e2 e3 e4
theorem EnvR.wipe {k : Dk} {rest : Mu} {ρ : Rho} {μ : Mu} (h : EnvR l k rest ρ μ) : ∀ vs : List Nat, EnvR (wipeE l vs) k rest (wipeR ρ vs) μ
  | [] => h
  | v :: vs => (h.wipe vs).wipe1 v
theorem wipeR_len (ρ : Rho) : ∀ vs : List Nat, (wipeR ρ vs).length = ρ.length
  | [] => rfl
  | v :: vs => by
    show ((wipeR ρ vs).set v none).length = _
    rw [List.length_set, wipeR_len ρ vs]
theorem wipeR_get {ρ : Rho} {j : Nat} : ∀ {vs : List Nat}, j ∉ vs → (wipeR ρ vs)[j]? = ρ[j]?
  | [], _ => rfl
  | v :: vs, h => by
    show ((wipeR ρ vs).set v none)[j]? = _
    rw [List.getElem?_set_ne (fun z : v = j => h (z ▸ List.mem_cons_self)), wipeR_get fun z => h (List.mem_cons_of_mem _ z)]
theorem wipeE_get {j : Nat} {x : Sk} : ∀ {vs : List Nat}, (wipeE l vs)[j]? = some (some x) → j ∉ vs
  | [], _ => List.not_mem_nil
  | v :: vs, h => fun m => by
    rcases getE_set (show ((wipeE l vs).set v none)[j]? = _ from h) with ⟨_, z, _⟩ | ⟨hj, e⟩
    · cases z
    · rcases List.mem_cons.mp m with m | m
      · exact hj m
      · exact wipeE_get e m
theorem EnvR.unwipe {k : Dk} {rest : Mu} {ρ : Rho} {μ : Mu} {vs : List Nat} (hw : wipeE l vs = l) (h : EnvR l k rest (wipeR ρ vs) μ) : EnvR l k rest ρ μ := by
  have out : ∀ (j : Nat) (x : Sk), l[j]? = some (some x) → (wipeR ρ vs)[j]? = ρ[j]? := fun j x e => wipeR_get (wipeE_get (l := l) (by rw [hw]; exact e))
  refine ⟨h.pre, by rw [← h.len, wipeR_len], fun j x e => ?_, fun a b xs ys t e1 e2 e3 e4 => ?_⟩
  · obtain ⟨s, e1, e2⟩ := h.at_ j x e
    rw [out j x e] at e1
    exact ⟨s, e1, e2⟩
  · exact h.inj a b xs ys t e1 e2 (by rw [out a _ e1]; exact e3) (by rw [out b _ e2]; exact e4)
def szD (ds : List PyData) : Option PUnit := if szOk ds.length = true then some ⟨⟩ else none
theorem noex_ok {α : Type} {m : M α} {μ μ' : Mu} {a : α} (h : m μ = some (.ok a μ')) : noEx m μ = some (.ok a μ') := by
  unfold noEx
  rw [h]
def lcE (l : En) (Fe : Rho → M Sv) (k' : Dk) (rest : Mu) (ρ ρ1 : Rho) (μ2 : Mu) (b : Bool) : Option PyData → Prop
  | some x => b = true ∧ ∃ μ3, Fe ρ1 μ2 = some (.ok (.dat x) μ3) ∧ EnvR l k' rest ρ μ3
  | none => b = false ∧ EnvR l k' rest ρ μ2
theorem lc_run {T : Sv → Rho → M Rho} {C : Rho → M Bool} {Fe : Rho → M Sv} {rest : Mu} {item : PyData → S (Option PyData)} {ρ : Rho}
    (h : ∀ d k μ, EnvR l k rest ρ μ → ∀ o k', item d k = some (.ok o, k') → ∃ ρ1 μ1 b μ2, T (.dat d) ρ μ = some (.ok ρ1 μ1) ∧ C ρ1 μ1 = some (.ok b μ2) ∧ lcE l Fe k' rest ρ ρ1 μ2 b o) : ∀ (ds : List PyData) (k : Dk) (μ : Mu), EnvR l k rest ρ μ → ∀ r k', S.mapF (fun d => S.noEx (item d)) ds k = some (r, k') → ∃ xs μ', r = .ok xs ∧ lcL T C Fe ds ρ μ = some (.ok (xs.map Sv.dat) μ') ∧ EnvR l k' rest ρ μ'
  | [], k, μ, e, r, k', q => by
    cases q
    exact ⟨[], μ, rfl, rfl, e⟩
  | d :: ds, k, μ, e, r, k', q => by
    unfold S.mapF at q
    rcases S.bind_inv q with ⟨o, k1, q1, q2⟩ | ⟨c, q1, rfl⟩
    · have q1' : item d k = some (.ok o, k1) := by
        unfold S.noEx at q1
        split at q1
        · rename_i z
          cases q1
          exact z
        · cases q1
      obtain ⟨ρ1, μ1, b, μ2, w1, w2, w3⟩ := h d k μ e o k1 q1'
      cases o with
      | some x =>
        obtain ⟨rfl, μ3, w3, e3⟩ := w3
        rcases S.bind_inv q2 with ⟨bs, k2, q3, q4⟩ | ⟨c, q3, rfl⟩
        · obtain ⟨xs, μ4, z, w4, e4⟩ := lc_run h ds k1 μ3 e3 _ _ q3
          cases z
          cases q4
          refine ⟨x :: bs, μ4, rfl, ?_, e4⟩
          unfold lcL
          rw [bind_ok (noex_ok w1), bind_ok (noex_ok w2), if_pos rfl, bind_ok (noex_ok w3), bind_ok w4]
          rfl
        · obtain ⟨xs, μ4, z, w4, e4⟩ := lc_run h ds k1 μ3 e3 _ _ q3
          cases z
      | none =>
        obtain ⟨rfl, e3⟩ := w3
        rcases S.bind_inv q2 with ⟨bs, k2, q3, q4⟩ | ⟨c, q3, rfl⟩
        · obtain ⟨xs, μ4, z, w4, e4⟩ := lc_run h ds k1 μ2 e3 _ _ q3
          cases z
          cases q4
          refine ⟨bs, μ4, rfl, ?_, e4⟩
          unfold lcL
          rw [bind_ok (noex_ok w1), bind_ok (noex_ok w2), if_neg Bool.false_ne_true, w4]
        · obtain ⟨xs, μ4, z, w4, e4⟩ := lc_run h ds k1 μ2 e3 _ _ q3
          cases z
    · exfalso
      unfold S.noEx at q1
      split at q1
      · cases q1
      · cases q1
theorem mapF_some {α β : Type} (f : α → S β) : ∀ xs : List α, S.mapF (fun d => S.noEx ((f d).bind fun x => S.ret (some x))) xs = S.mapM (fun d => S.noEx (f d)) xs
  | [] => rfl
  | x :: xs => by
    unfold S.mapF S.mapM
    rw [mapF_some f xs]
    have : S.noEx ((f x).bind fun x => S.ret (some x)) = (S.noEx (f x)).bind fun x => S.ret (some x) := by
      funext k
      unfold S.noEx S.bind S.ret
      dsimp only
      generalize f x k = z
      rcases z with _ | ⟨_ | _, k'⟩ <;> rfl
    rw [this, S.bind_assoc]
    rfl
section
variable {Fi : Rho → M (List PyData)} {tw : S (List PyData)} {T : Sv → Rho → M Rho} {u : PyData → S σ} {e' : σ → En} {C : Rho → M Bool} {tC : σ → S Bool} {Fe : Rho → M Sv} {te : σ → S PyData}
theorem lc_item (hT : ∀ d, Jd l (T (.dat d)) (u d) (pTc l e')) (hC : ∀ s, Jd (e' s) C (tC s) (pB (e' s))) (he : ∀ s, Jd (e' s) Fe (te s) (pV (e' s))) {rest : Mu} {ρ : Rho} (d : PyData) (k : Dk) (μ : Mu) (e : EnvR l k rest ρ μ) (o : Option PyData) (k' : Dk)
    (q : ((u d).bind fun s => (tC s).bind fun z => if z = true then (te s).bind fun x => S.ret (some x) else S.ret none) k = some (.ok o, k')) : ∃ ρ1 μ1 b μ2, T (.dat d) ρ μ = some (.ok ρ1 μ1) ∧ C ρ1 μ1 = some (.ok b μ2) ∧ lcE l Fe k' rest ρ ρ1 μ2 b o := by
  rcases S.bind_inv q with ⟨s, k1, q1, q2⟩ | ⟨c, q1, z⟩
  · obtain ⟨ρ1, μ1, w1, e1, back⟩ := hT d k rest ρ μ e _ _ q1
    rcases S.bind_inv q2 with ⟨b, k2, q3, q4⟩ | ⟨c, q1, z⟩
    · obtain ⟨b', μ2, w2, rfl, e2⟩ := hC s k1 rest ρ1 μ1 e1 _ _ q3
      refine ⟨ρ1, μ1, b', μ2, w1, w2, ?_⟩
      cases b' with
      | true =>
        rw [if_pos rfl] at q4
        rcases S.bind_inv q4 with ⟨x, k3, q5, q6⟩ | ⟨c, q5, z⟩
        · cases q6
          obtain ⟨v, μ3, w3, rfl, e3⟩ := he s k2 rest ρ1 μ2 e2 _ _ q5
          exact ⟨rfl, μ3, w3, back _ _ e3⟩
        · cases z
      | false =>
        rw [if_neg Bool.false_ne_true] at q4
        cases q4
        exact ⟨rfl, back _ _ e2⟩
    · cases z
  · cases z
theorem lc_core {m : Bool} {vs : List Nat} {item : PyData → S (Option PyData)} (hi : Jd l Fi tw (pL l1)) (hw : wipeE l1 vs = l1)
    (h : ∀ rest ρ d k μ, EnvR l1 k rest ρ μ → ∀ o k', item d k = some (.ok o, k') → ∃ ρ1 μ1 b μ2, T (.dat d) ρ μ = some (.ok ρ1 μ1) ∧ C ρ1 μ1 = some (.ok b μ2) ∧ lcE l1 Fe k' rest ρ ρ1 μ2 b o) {β : Type} (out : List PyData → β) (P : Post Sv β) (fin : ∀ k rest ρ μ xs, EnvR l1 k rest ρ μ → ∃ a μ', mkl m (xs.map Sv.dat) μ = some (.ok a μ') ∧ P k rest ρ μ' a (out xs)) :
    Jd l (lcV m vs Fi T C Fe) (tw.bind fun ds => (S.lift (szD ds)).bind fun _ => (S.mapF (fun d => S.noEx (item d)) ds).bind fun xs => S.ret (out xs)) P := fun k rest ρ μ e => by
  refine (hi k rest ρ μ e).bind fun k1 μ1 a ds ⟨z, e1⟩ => ?_
  subst z
  refine Jl.pre fun _ q => ?_
  have hsz : szOk a.length = true := by
    unfold szD at q
    split at q
    · assumption
    · cases q
  rw [if_pos hsz]
  have e2 : EnvR l1 k1 rest (wipeR ρ vs) μ1 := by
    have := e1.wipe vs
    rwa [hw] at this
  intro r k' q
  rcases S.bind_inv q with ⟨xs, k2, q1, q2⟩ | ⟨c, q1, z⟩
  · obtain ⟨xs', μ2, z, w, e3⟩ := lc_run (T := T) (C := C) (Fe := Fe) (fun d k μ e => h rest _ d k μ e) a k1 μ1 e2 _ _ q1
    cases z
    cases q2
    obtain ⟨a, μ', w2, p⟩ := fin _ rest ρ μ2 xs (e3.unwipe hw)
    exact ⟨a, μ', by rw [bind_ok w]; exact w2, p⟩
  · obtain ⟨xs', μ2, z, w, e3⟩ := lc_run (T := T) (C := C) (Fe := Fe) (fun d k μ e => h rest _ d k μ e) a k1 μ1 e2 _ _ q1
    cases z
theorem fin_V {k : Dk} {rest : Mu} {ρ : Rho} {μ : Mu} (xs : List PyData) (e : EnvR l1 k rest ρ μ) : ∃ a μ', mkl false (xs.map Sv.dat) μ = some (.ok a μ') ∧ pV l1 k rest ρ μ' a (.list xs) := ⟨_, μ, mkl_dat xs μ, rfl, e⟩
theorem yes_j {le : En} : Jd le yes (S.ret true) (pB le) := fun k rest ρ μ e => Jl.ret ⟨rfl, e⟩
theorem e_lc (vs : List Nat) (hi : Jd l Fi tw (pL l1)) (hw : wipeE l1 vs = l1) (hT : ∀ d, Jd l1 (T (.dat d)) (u d) (pTc l1 e')) (he : ∀ s, Jd (e' s) Fe (te s) (pV (e' s))) :
    Jd l (lcV false vs Fi T yes Fe) (tw.bind fun ds => (S.lift (szD ds)).bind fun _ => (S.mapM (fun d => S.noEx ((u d).bind te)) ds).bind fun xs => S.ret (.list xs)) (pV l1) := by
  have := lc_core (m := false) (T := T) (C := yes) (Fe := Fe) hi hw (fun rest ρ d k μ e => lc_item hT (fun s => yes_j) he d k μ e) PyData.list (pV l1) fun k rest ρ μ xs e => fin_V xs e
  refine (congrArg (fun t => Jd l (lcV false vs Fi T yes Fe) t (pV l1)) ?_).mp this
  congr 1
  funext ds
  congr 1
  funext _
  congr 1
  rw [← mapF_some]
  congr 1
  funext d
  rw [S.bind_assoc]
  rfl
/-! ### for -/
variable {B : Rho → M Out} {h : σ → En}
theorem for_run {tb : σ → PyData → S σ} {rest : Mu} {ρ0 : Rho} (hb : ∀ s d, Jd (h s) (fun ρ => (T (.dat d) ρ).bind B) (tb s d) (pN h)) : ∀ (ds : List PyData) (s : σ) (k : Dk) (ρ : Rho) (μ : Mu), EnvR (h s) k rest ρ μ → Jl k rest ρ0 μ (loopG T B ds ρ) (S.foldM tb ds s) (pN h)
  | [], s, k, ρ, μ, e => Jl.ret ⟨ρ, rfl, e⟩
  | d :: ds, s, k, ρ, μ, e => by
    refine Jl.eqM (m := ((T (.dat d) ρ).bind B).bind fun o => match o with | .nx ρ2 => loopG T B ds ρ2 | .ct ρ2 => loopG T B ds ρ2 | .bk ρ2 => M.ret (.nx ρ2) | .rt s => M.ret (.rt s)) ?_ ?_
    · have := hb s d k rest ρ μ e
      refine Jl.bind (P := fun k rest _ μ a s => ∃ ρ', a = .nx ρ' ∧ EnvR (h s) k rest ρ' μ) (fun r k' q => this r k' q) fun k1 μ1 a s1 ⟨ρ1, z, e1⟩ => ?_
      subst z
      exact for_run hb ds s1 k1 ρ1 μ1 e1
    · exact (M.assoc _ _ _).symm
theorem s_for' {tb : σ → PyData → S σ} (s0 : σ) (hi : Jd l Fi tw (pL l1)) (w : Wkn l1 (h s0)) (hb : ∀ s d, Jd (h s) (fun ρ => (T (.dat d) ρ).bind B) (tb s d) (pN h)) : Jd l (gFor Fi T B) (tw.bind fun ds => S.foldM tb ds s0) (pN h) := fun k rest ρ μ e => by
  refine (hi k rest ρ μ e).bind fun k1 μ1 a ds ⟨z, e1⟩ => ?_
  subst z
  exact for_run hb a s0 k1 ρ μ1 (e1.weak w)
def S.foldF (f : σ → PyData → S (Fl σ)) : List PyData → σ → S (Fl σ)
  | [], s => S.ret (.nx s)
  | d :: ds, s => (f s d).bind fun o => match o with
    | .nx s' => S.foldF f ds s'
    | .ct s' => S.foldF f ds s'
    | .bk s' => S.ret (.nx s')
    | .rt d => S.ret (.rt d)
theorem forF_run {tb : σ → PyData → S (Fl σ)} {rest : Mu} {ρ0 : Rho} (hb : ∀ s d, Jd (h s) (fun ρ => (T (.dat d) ρ).bind B) (tb s d) (pS true h)) : ∀ (ds : List PyData) (s : σ) (k : Dk) (ρ : Rho) (μ : Mu), EnvR (h s) k rest ρ μ → Jl k rest ρ0 μ (loopG T B ds ρ) (S.foldF tb ds s) (pS true h)
  | [], s, k, ρ, μ, e => Jl.ret ⟨rfl, e⟩
  | d :: ds, s, k, ρ, μ, e => by
    refine Jl.eqM (m := ((T (.dat d) ρ).bind B).bind fun o => match o with | .nx ρ2 => loopG T B ds ρ2 | .ct ρ2 => loopG T B ds ρ2 | .bk ρ2 => M.ret (.nx ρ2) | .rt s => M.ret (.rt s)) ?_ ?_
    · have := hb s d k rest ρ μ e
      refine Jl.bind (P := pS true h) (fun r k' q => this r k' q) fun k1 μ1 a s1 p => ?_
      unfold pS at p
      split at p
      · exact forF_run hb ds _ k1 _ μ1 p.2
      · exact Jl.ret p
      · exact Jl.ret ⟨rfl, p⟩
      · exact forF_run hb ds _ k1 _ μ1 p
      · exact p.elim
    · exact (M.assoc _ _ _).symm
theorem s_forF {tb : σ → PyData → S (Fl σ)} (s0 : σ) (hi : Jd l Fi tw (pL l1)) (w : Wkn l1 (h s0)) (hb : ∀ s d, Jd (h s) (fun ρ => (T (.dat d) ρ).bind B) (tb s d) (pS true h)) : Jd l (gFor Fi T B) (tw.bind fun ds => S.foldF tb ds s0) (pS true h) := fun k rest ρ μ e => by
  refine (hi k rest ρ μ e).bind fun k1 μ1 a ds ⟨z, e1⟩ => ?_
  subst z
  exact forF_run hb a s0 k1 ρ μ1 (e1.weak w)
/-- the target and the body -/
theorem b_tg {β : Type} {P : Dk → Mu → Mu → Out → β → Prop} {tb : σ → S β} (d : PyData) (hT : Jd l (T (.dat d)) (u d) (pT e')) (hb : ∀ s, Jd (e' s) B (tb s) fun k rest _ μ a b => P k rest μ a b) : Jd l (fun ρ => (T (.dat d) ρ).bind B) ((u d).bind tb) fun k rest _ μ a b => P k rest μ a b := fun k rest ρ μ e => by
  refine (hT k rest ρ μ e).bind fun k1 μ1 a s e1 => ?_
  exact hb s k1 rest a μ1 e1
/-! ### while -/
end
end
end Pf

namespace Pf
open PySem PySem.Spec PyProof.Rows L2
/-! ### own functions -/
def intsOf : List Sv → Option (List Int)
  | [] => some []
  | .dat (.int i) :: r => (intsOf r).map (i :: ·)
  | _ => none
theorem intsOf_map : ∀ cs : List Int, intsOf (cs.map svI) = some cs
  | [] => rfl
  | c :: cs => by
    show (intsOf (cs.map svI)).map (c :: ·) = _
    rw [intsOf_map cs]
    rfl
theorem intsOf_eq : ∀ {xs : List Sv} {cs : List Int}, intsOf xs = some cs → xs = cs.map svI
  | [], _, h => by
    cases h
    rfl
  | .dat (.int i) :: r, cs, h => by
    have h' : (intsOf r).map (i :: ·) = some cs := h
    cases q : intsOf r with
    | none =>
      rw [q] at h'
      cases h'
    | some z =>
      rw [q] at h'
      cases h'
      rw [intsOf_eq q]
      rfl
  | .dat .none :: _, _, h => nomatch h
  | .dat (.bool _) :: _, _, h => nomatch h
  | .dat (.str _) :: _, _, h => nomatch h
  | .dat (.list _) :: _, _, h => nomatch h
  | .dat (.tuple _) :: _, _, h => nomatch h
  | .dat (.dict _) :: _, _, h => nomatch h
  | .ref _ :: _, _, h => nomatch h
  | .scr _ :: _, _, h => nomatch h
def parse : Mu → Option (Dk × Mu)
  | .lst xs :: .lst [.ref 0, .dat (.int n)] :: rest => (intsOf xs).map fun cs => (⟨cs, n, none⟩, rest)
  | .lst xs :: .lst [.dat (.list ds), .dat (.int n), .ref 0] :: rest => (intsOf xs).bind fun cs => (asInts ds).map fun c => (⟨cs, n, some c⟩, rest)
  | _ => none
theorem parse_dk (k : Dk) (rest : Mu) : parse (dkO k ++ rest) = some (k, rest) := by
  obtain ⟨cs, n, ce⟩ := k
  cases ce with
  | none =>
    show (intsOf (cs.map svI)).map _ = _
    rw [intsOf_map]
    rfl
  | some c =>
    show (intsOf (cs.map svI)).bind (fun cs => (asInts (c.map .int)).map _) = _
    rw [intsOf_map, ints_map]
    rfl
theorem parse_eq {μ rest : Mu} {k : Dk} (h : parse μ = some (k, rest)) : μ = dkO k ++ rest := by
  unfold parse at h
  split at h
  · rename_i xs n rest'
    cases q : intsOf xs with
    | none =>
      rw [q] at h
      cases h
    | some z =>
      rw [q] at h
      cases h
      rw [intsOf_eq q]
      rfl
  · rename_i xs ds n rest'
    cases q : intsOf xs with
    | none =>
      rw [q] at h
      cases h
    | some z =>
      cases q2 : asInts ds with
      | none =>
        rw [q, q2] at h
        cases h
      | some y =>
        rw [q, q2] at h
        cases h
        rw [intsOf_eq q, asInts_eq q2]
        rfl
  · cases h
def upR (k : Dk) (rest : Mu) : Rs PyData → Res Sv
  | .ok d => .ok (.dat d) (dkO k ++ rest)
  | .ex c => .ex c.up (dkO k ++ rest)
def liftF (T : List PyData → S PyData) (ss : List Sv) : M Sv := fun μ => match parse μ, dats ss with
  | some (k, rest), some ds => match T ds k with
    | some (r, k') => some (upR k' rest r)
    | none => none
  | _, _ => none
def liftD (T : List PyData → S PyData) (ss : List Sv) : M Sv := match ss with
  | .ref 1 :: r => liftF T r
  | _ => M.fail
def u0 (T : S PyData) : List PyData → S PyData
  | [] => T
  | _ => S.fail
def u1 (T : PyData → S PyData) : List PyData → S PyData
  | [a] => T a
  | _ => S.fail
def u2 (T : PyData → PyData → S PyData) : List PyData → S PyData
  | [a, b] => T a b
  | _ => S.fail
def u3 (T : PyData → PyData → PyData → S PyData) : List PyData → S PyData
  | [a, b, c] => T a b c
  | _ => S.fail
section
variable {l l1 l2 l3 l4 : En} {Fa Fb Fc Fd : Rho → M Sv} {ta tb tc td : S PyData}
theorem EnvR.deck {k k' : Dk} {rest g : Mu} {ρ : Rho} (h : EnvR l k rest ρ (dkO k ++ rest ++ g)) : EnvR l k' rest ρ (dkO k' ++ rest ++ g) := by
  refine ⟨⟨g, rfl⟩, h.len, fun i x e => ?_, h.inj⟩
  obtain ⟨s, e1, e2⟩ := h.at_ i x e
  refine ⟨s, e1, ?_⟩
  cases x with
  | im d => exact e2
  | dk => exact e2
  | tg t => exact e2
  | mt ds =>
    obtain ⟨t, a, b, c⟩ := e2
    refine ⟨t, a, b, ?_⟩
    have hb : (dkO k ++ rest).length ≤ t := by rw [List.length_append]; exact b
    have hb' : (dkO k' ++ rest).length ≤ t := by rw [List.length_append]; exact b
    rw [List.getElem?_append_right hb] at c
    rw [List.getElem?_append_right hb']
    have : (dkO k' ++ rest).length = (dkO k ++ rest).length := by rw [List.length_append, List.length_append]; rfl
    rw [this]
    exact c
/-- a call, its arguments being known -/
theorem lift_run {T : List PyData → S PyData} {ds : List PyData} {ss : List Sv} {k : Dk} {rest : Mu} {ρ : Rho} {μ : Mu} (e : EnvR l k rest ρ μ) (hs : dats ss = some ds) : Jl k rest ρ μ (liftF T ss) (T ds) (pV l) := by
  intro r k' q
  obtain ⟨g, hg⟩ := e.pre
  subst hg
  have hp : parse (dkO k ++ rest ++ g) = some (k, rest ++ g) := by
    rw [List.append_assoc]
    exact parse_dk k _
  have z : liftF T ss (dkO k ++ rest ++ g) = some (upR k' (rest ++ g) r) := by
    unfold liftF
    rw [hp, hs]
    dsimp only
    rw [q]
  cases r with
  | ok d => exact ⟨_, dkO k' ++ rest ++ g, by rw [z, List.append_assoc]; rfl, rfl, e.deck⟩
  | ex c => exact ⟨g, by rw [z, List.append_assoc]; rfl⟩
theorem call_args {Fm : List Sv → M Sv} {n : Nat} {Fs : Rho → M (List Sv)} {ts : S (List PyData)} {T : List PyData → S PyData} (hF : ∀ k rest ρ μ ds, EnvR l1 k rest ρ μ → ds.length = n → Jl k rest ρ μ (Fm (ds.map Sv.dat)) (T ds) (pV l1)) (h : Jd l Fs ts (pA n l1)) :
    Jd l (callF Fm n Fs) (ts.bind T) (pV l1) := fun k rest ρ μ e => by
  refine (h k rest ρ μ e).bind fun k1 μ1 as ds ⟨z, hl, e1⟩ => ?_
  subst z
  rw [List.length_map, hl, decide_eq_true rfl, if_pos rfl]
  exact hF k1 rest ρ μ1 ds e1 hl
theorem e_call {n : Nat} {Fs : Rho → M (List Sv)} {ts : S (List PyData)} {T : List PyData → S PyData} (h : Jd l Fs ts (pA n l1)) : Jd l (callF (liftF T) n Fs) (ts.bind T) (pV l1) :=
  call_args (fun k rest ρ μ ds e _ => lift_run e (dats_map ds)) h
/-- a call that hands the deck over -/
theorem e_callD {n : Nat} {Fs : Rho → M (List Sv)} {ts : S (List PyData)} {T : List PyData → S PyData} (i : Nat) (hi : l[i]? = some (some .dk)) (h : Jd l Fs ts (pA n l1)) : Jd l (callF (liftD T) (n + 1) (argC (slot i) Fs)) (ts.bind T) (pV l1) := fun k rest ρ μ e => by
  obtain ⟨s, h1, h2⟩ := e.at_ i _ hi
  cases h2
  intro r k' q
  have z : callF (liftD T) (n + 1) (argC (slot i) Fs) ρ μ = ((Fs ρ).bind fun ss => if decide ((Sv.ref 1 :: ss).length = n + 1) = true then liftF T ss else M.fail) μ := by
    unfold callF argC
    rw [M.assoc, bind_ok (slot_at μ h1), M.assoc]
    rfl
  rw [z]
  refine ((h k rest ρ μ e).bind fun k1 μ1 as ds ⟨z, hl, e1⟩ => ?_) r k' q
  subst z
  rw [List.length_cons, List.length_map, hl]
  show Jl _ _ _ _ (if decide (n + 1 = n + 1) = true then _ else _) _ _
  rw [decide_eq_true rfl, if_pos rfl]
  exact lift_run e1 (dats_map ds)
end
/-! ### a body keeps its promise -/
def inE (N : Nat) (ds : List PyData) : En := ds.map (fun d => some (.im d)) ++ List.replicate (N - ds.length) none
theorem inE_env {N : Nat} {ds : List PyData} {k : Dk} {rest : Mu} : EnvR (inE N ds) k rest (ini N (ds.map Sv.dat)) (dkO k ++ rest) := by
  refine ⟨⟨[], by rw [List.append_nil]⟩, ?_, fun i x e => ?_, fun i j xs ys t e1 => ?_⟩
  · unfold ini inE
    simp
  · unfold inE at e
    by_cases hi : i < ds.length
    · rw [List.getElem?_append_left (by rw [List.length_map]; exact hi), List.getElem?_map, List.getElem?_eq_getElem hi] at e
      cases e
      refine ⟨.dat ds[i], ?_, rfl⟩
      unfold ini
      rw [List.getElem?_append_left (by simpa using hi)]
      simp [hi]
    · rw [List.getElem?_append_right (by rw [List.length_map]; omega)] at e
      have := List.eq_of_mem_replicate (List.mem_of_getElem? e)
      cases this
  · unfold inE at e1
    by_cases hi : i < ds.length
    · rw [List.getElem?_append_left (by rw [List.length_map]; exact hi), List.getElem?_map, List.getElem?_eq_getElem hi] at e1
      cases e1
    · rw [List.getElem?_append_right (by rw [List.length_map]; omega)] at e1
      have := List.eq_of_mem_replicate (List.mem_of_getElem? e1)
      cases this
theorem dats_eq : ∀ {ss : List Sv} {ds : List PyData}, dats ss = some ds → ss = ds.map Sv.dat
  | [], _, h => by
    cases h
    rfl
  | .dat d :: r, ds, h => by
    have h' : (dats r).map (d :: ·) = some ds := h
    cases q : dats r with
    | none =>
      rw [q] at h'
      cases h'
    | some z =>
      rw [q] at h'
      cases h'
      rw [dats_eq q]
      rfl
  | .ref _ :: _, _, h => nomatch h
  | .scr _ :: _, _, h => nomatch h
theorem wf_deck {k k' : Dk} {rest : Mu} (h : Wf (dkO k ++ rest)) : Wf (dkO k' ++ rest) := fun i xs e t ht => by
  have hl : (dkO k' ++ rest).length = (dkO k ++ rest).length := by rw [List.length_append, List.length_append]; rfl
  rw [hl]
  match i with
  | 0 =>
    have : xs = k'.cs.map svI := by
      cases e
      rfl
    subst this
    obtain ⟨c, _, z⟩ := List.mem_map.mp ht
    cases z
  | 1 =>
    have : xs = dkI k' := by
      cases e
      rfl
    subst this
    rw [List.length_append]
    show t < 2 + rest.length
    unfold dkI at ht
    split at ht
    · rcases List.mem_cons.mp ht with z | z
      · cases z
        omega
      · have := List.mem_singleton.mp z
        cases this
    · rcases List.mem_cons.mp ht with z | z
      · cases z
      · rcases List.mem_cons.mp z with z | z
        · cases z
        · have := List.mem_singleton.mp z
          cases this
          omega
  | i + 2 => exact h (i + 2) xs e t ht
theorem agree_T {N n : Nat} {G : Rho → M Out} {T : List PyData → S PyData} {l : List PyData → En} (pre : List Sv) (h : ∀ ds, ds.length = n → Jd (l ds) G (T ds) pE) (hl : ∀ ds k rest, ds.length = n → EnvR (l ds) k rest (ini N (pre ++ ds.map Sv.dat)) (dkO k ++ rest)) (ss : List Sv) (μ : Mu) (r : Res Sv) (hs : ss.length = n) (wf : Wf μ) (e : liftF T ss μ = some r) :
    ∃ r', G (ini N (pre ++ ss)) μ = some r' ∧ Agree μ.length r r' := by
  unfold liftF at e
  cases hp : parse μ with
  | none =>
    rw [hp] at e
    cases e
  | some z =>
    obtain ⟨k, rest⟩ := z
    cases hd : dats ss with
    | none =>
      rw [hp, hd] at e
      cases e
    | some ds =>
      rw [hp, hd] at e
      dsimp only at e
      cases ht : T ds k with
      | none =>
        rw [ht] at e
        cases e
      | some z =>
        obtain ⟨r0, k'⟩ := z
        rw [ht] at e
        cases e
        have hm := parse_eq hp
        have hss := dats_eq hd
        subst hm hss
        rw [List.length_map] at hs
        have main := h ds hs k rest _ _ (hl ds k rest hs) r0 k' ht
        have hle : (dkO k ++ rest).length ≤ (dkO k' ++ rest).length := by rw [List.length_append, List.length_append]; exact Nat.le_refl _
        cases r0 with
        | ok d =>
          obtain ⟨a, μ', w, p, g, hg⟩ := main
          refine ⟨_, w, ?_⟩
          rcases p with rfl | ⟨ρ', rfl, rfl⟩
          · exact ⟨rfl, ⟨g, hg⟩, wf_deck wf, hle, trivial⟩
          · exact ⟨rfl, ⟨g, hg⟩, wf_deck wf, hle⟩
        | ex c =>
          obtain ⟨g, w⟩ := main
          refine ⟨_, w, rfl, ⟨g, rfl⟩, wf_deck wf, hle, fun f s hf => ?_⟩
          obtain ⟨C, fl⟩ := c
          cases fl with
          | none => cases hf
          | some p =>
            cases hf
            trivial
theorem same_T {N n : Nat} {G : Rho → M Out} {T : List PyData → S PyData} (h : ∀ ds, ds.length = n → Jd (inE N ds) G (T ds) pE) (ss : List Sv) (μ : Mu) (r : Res Sv) (hs : ss.length = n) (wf : Wf μ) (e : liftF T ss μ = some r) :
    ∃ r', G (ini N ss) μ = some r' ∧ Agree μ.length r r' := agree_T (N := N) [] h (fun ds k rest _ => inE_env) ss μ r hs wf e
def inD (N : Nat) (ds : List PyData) : En := some .dk :: inE (N - 1) ds
theorem inD_env {N : Nat} {ds : List PyData} {k : Dk} {rest : Mu} (hN : 0 < N) : EnvR (inD N ds) k rest (ini N (.ref 1 :: ds.map Sv.dat)) (dkO k ++ rest) := by
  have hi : ini N (.ref 1 :: ds.map Sv.dat) = some (.ref 1) :: ini (N - 1) (ds.map Sv.dat) := by
    unfold ini
    rw [List.map_cons, List.cons_append, List.length_cons, show N - ((ds.map Sv.dat).length + 1) = N - 1 - (ds.map Sv.dat).length by omega]
  rw [hi]
  have h := inE_env (N := N - 1) (ds := ds) (k := k) (rest := rest)
  refine ⟨h.pre, by unfold inD; rw [List.length_cons, List.length_cons, h.len], fun i x e => ?_, fun i j xs ys t e1 e2 e3 e4 => ?_⟩
  · cases i with
    | zero =>
      cases e
      exact ⟨_, rfl, rfl⟩
    | succ i => exact h.at_ i x e
  · cases i with
    | zero => cases e1
    | succ i =>
      cases j with
      | zero => cases e2
      | succ j => rw [h.inj i j xs ys t e1 e2 e3 e4]
theorem same_D {N n : Nat} (hN : 0 < N) {G : Rho → M Out} {T : List PyData → S PyData} (h : ∀ ds, ds.length = n → Jd (inD N ds) G (T ds) pE) (ss : List Sv) (μ : Mu) (r : Res Sv) (hs : ss.length = n + 1) (wf : Wf μ) (e : liftD T ss μ = some r) :
    ∃ r', G (ini N ss) μ = some r' ∧ Agree μ.length r r' := by
  unfold liftD at e
  split at e
  · rename_i r0
    exact agree_T (N := N) [.ref 1] h (fun ds k rest _ => inD_env hN) _ μ r (by simpa using hs) wf e
  · cases e
theorem len1 {ds : List PyData} (h : ds.length = 1) : ∃ a, ds = [a] := by
  match ds, h with
  | [a], _ => exact ⟨a, rfl⟩
theorem len2 {ds : List PyData} (h : ds.length = 2) : ∃ a b, ds = [a, b] := by
  match ds, h with
  | [a, b], _ => exact ⟨a, b, rfl⟩
theorem len3 {ds : List PyData} (h : ds.length = 3) : ∃ a b c, ds = [a, b, c] := by
  match ds, h with
  | [a, b, c], _ => exact ⟨a, b, c, rfl⟩
end Pf

namespace Pf
open PySem PySem.Spec PyProof.Rows L2
/-! any, all of lists of bools; enumerate of a list or tuple -/
def asBools : List PyData → Option (List Bool)
  | [] => some []
  | .bool b :: r => (asBools r).map (b :: ·)
  | _ :: _ => none
theorem asBools_eq : ∀ {ds : List PyData} {bs : List Bool}, asBools ds = some bs → ds = bs.map PyData.bool
  | [], _, h => by
    cases h
    rfl
  | .bool b :: r, bs, h => by
    have h' : (asBools r).map (b :: ·) = some bs := h
    cases q : asBools r with
    | none =>
      rw [q] at h'
      cases h'
    | some z =>
      rw [q] at h'
      cases h'
      rw [asBools_eq q]
      rfl
  | .none :: _, _, h => nomatch h
  | .int _ :: _, _, h => nomatch h
  | .str _ :: _, _, h => nomatch h
  | .list _ :: _, _, h => nomatch h
  | .tuple _ :: _, _, h => nomatch h
  | .dict _ :: _, _, h => nomatch h
theorem asBools_map : ∀ bs : List Bool, asBools (bs.map PyData.bool) = some bs
  | [] => rfl
  | b :: bs => by
    show (asBools (bs.map PyData.bool)).map (b :: ·) = _
    rw [asBools_map bs]
    rfl
section
variable {X : Cx} {E : XK} {a : Expr} {Fa : Rho → M Sv} {p pos tpos : Pos}
theorem dqs_bools {K : PySem.W.Frag} {H : Hp} : ∀ {vs : List V} {bs : List Bool}, Dqs K H vs (bs.map PyData.bool) → vs = bs.map V.bl
  | _, [], .nil => rfl
  | _, b :: bs, .cons h r => by
    cases h
    rw [dqs_bools r]
    rfl
def bBool (f : List Bool → Bool) (ss : List Sv) : M Sv := match ss with
  | [s] => (rd s).bind fun d => match d with
    | .list ds => (orFail (asBools ds)).bind fun bs => M.ret (.dat (.bool (f bs)))
    | _ => M.fail
  | _ => M.fail
theorem bool_ent {f : List Bool → Bool} {xs : List V} {H : Hp} {Q : VK} (h : rC X.K E (bBool f) xs H Q) : ∃ (a : Addr) (bs : List Bool), xs = [V.ref a] ∧ SqL X.K H a (bs.map V.bl) ∧ Q (.bl (f bs)) H := by
  obtain ⟨W, μ, ss, r, R, rs, e, q⟩ := h
  unfold bBool at e
  split at e
  · obtain ⟨x, rfl, h⟩ := rels1 rs
    obtain ⟨d, e1, e⟩ := rd_bind e
    obtain ⟨d', z1, h1⟩ := rd_rel R h e1
    cases z1
    split at e
    · obtain ⟨bs, e2, e⟩ := orFail_some e
      cases e
      have z := asBools_eq e2
      subst z
      cases h1 with
      | lst h2 r2 =>
        rw [dqs_bools r2] at h2
        exact ⟨_, bs, rfl, SqL.of h2, q _ _ (Grow.refl _ _ _) R _ (.bl _)⟩
    · cases e
  · cases e
abbrev bAll := bBool fun bs => bs.all id
theorem b_all (hc : X.calm = true := by rfl) : CallR X (.builtin "all") (rC X.K E bAll) := callr_weak (cr_all hc) fun xs H Q h => bool_ent h
theorem wk_enuL {K : PySem.W.Frag} {W : Wd} {a : Addr} {vs : List V} {ds : List PyData} (h : W.S a = some (.lst vs)) (r : Dqs K W.S vs ds) : Wk K (Ite K a) W (enuD ds) where
  go := fun i d W1 H μ g R e => by
    obtain ⟨y, e2, rfl⟩ := enu_at e
    obtain ⟨v, a1, _⟩ := r.getD e2
    exact ⟨vs, v, SqL.of (R.sub _ _ (g _ _ h)), a1⟩
  yld := fun i d W1 H μ x H' g R e y => by
    obtain ⟨z, e2, rfl⟩ := enu_at e
    obtain ⟨T, x1, rfl, nT, rfl, f1⟩ := y
    obtain ⟨v, a1, q1⟩ := r.getD e2
    have z1 := f1 vs (SqL.of (R.sub _ _ (g _ _ h)))
    rw [a1] at z1
    cases z1
    exact pair_new R nT (.int _) (Dq.mono g q1)
  stop := fun i W1 H μ g R e => ⟨vs, SqL.of (R.sub _ _ (g _ _ h)), by rw [r.len, ← enu_len]; exact e⟩
theorem pi_or {tg e : Expr} {t1 t2 : TI} (h1 : PI X tg e t1) (h2 : PI X tg e t2) : PI X tg e fun σ H R => t1 σ H R ∨ t2 σ H R := ⟨fun pins s σ H Q I q => q.elim (h1.run pins s σ H Q I) (h2.run pins s σ H Q I)⟩
def enuL (Fa : Rho → M Sv) (ρ : Rho) : M (List PyData) := (Fa ρ).bind fun s => match s with
  | .dat (.list ds) => M.ret (enuD ds)
  | _ => M.fail
theorem i_enuL {elts : List Expr} {kk : Nat} (hc : X.calm = true) (hm : X.mg "enumerate" = none) (ha : PX X E a Fa) (hg : Gl X "enumerate" := by rfl) (hs : starEach [a] X.env = (false, eval a X.env) :: starEach [] X.env := by rfl) (hs2 : starEach [a] X.env = [(false, eval a X.env)] := by rfl) :
    PIX X E (.Tuple elts kk tpos) (.Call (.Name "enumerate" p) [a] [] pos) (enuL Fa) := pi_weak (pi_enum hg hm (pa_cons ha pa_nil hs) hs2) fun σ H R ⟨W, ρ, μ, r, h, e, q⟩ => by
  refine tX_bind h e q fun v s W1 H1 μ1 g1 h1 rs e1 q1 => ?_
  split at e1
  · cases e1
    cases rs with
    | lst z1 y1 => exact ⟨_, _, rfl, SqL.of (h1.rel.sub _ _ z1), q1 _ _ (Grow.refl _ _ _) h1.rel _ (wk_enuL z1 y1)⟩
  · cases e1
def enuA (Fa : Rho → M Sv) (ρ : Rho) : M (List PyData) := (Fa ρ).bind fun s => match s with
  | .dat (.list ds) => M.ret (enuD ds)
  | .dat (.tuple ds) => M.ret (enuD ds)
  | _ => M.fail
theorem i_enuA {elts : List Expr} {kk : Nat} (hc : X.calm = true) (hm : X.mg "enumerate" = none) (ha : PX X E a Fa) (hg : Gl X "enumerate" := by rfl) (hs : starEach [a] X.env = (false, eval a X.env) :: starEach [] X.env := by rfl) (hs2 : starEach [a] X.env = [(false, eval a X.env)] := by rfl) :
    PIX X E (.Tuple elts kk tpos) (.Call (.Name "enumerate" p) [a] [] pos) (enuA Fa) := pi_weak (pi_or (i_enuL (tpos := tpos) (elts := elts) (kk := kk) hc hm ha hg hs hs2) (i_enu hc hm ha hg hs hs2)) fun σ H R ⟨W, ρ, μ, r, h, e, q⟩ => by
  rcases bind_some e with ⟨s, μ1, e1, e2⟩ | ⟨c, μ1, e1, rfl⟩
  · split at e2
    · refine .inl ⟨W, ρ, μ, r, h, ?_, q⟩
      unfold enuL
      rw [bind_ok e1]
      exact e2
    · refine .inr ⟨W, ρ, μ, r, h, ?_, q⟩
      unfold enuV
      rw [bind_ok e1]
      exact e2
    · cases e2
  · exact .inl ⟨W, ρ, μ, _, h, bind_ex e1, q⟩
end
end Pf

namespace Pf
open PySem PySem.Spec PyProof.Rows L2
/-! ### operators of data -/
def oAdd : PyData → PyData → Option PyData
  | .int i, .int j => some (.int (i + j))
  | .tuple xs, .tuple ys => if xs.length + ys.length ≤ 1000000 then some (.tuple (xs ++ ys)) else none
  | .str x, .str y => if x.length + y.length ≤ 1000000 then some (.str (x ++ y)) else none
  | .list xs, .list ys => if xs.length + ys.length ≤ 1000000 then some (.list (xs ++ ys)) else none
  | _, _ => none
def oSub : PyData → PyData → Option PyData
  | .int i, .int j => some (.int (i - j))
  | _, _ => none
def oMul : PyData → PyData → Option PyData
  | .int i, .int j => if (small i || small j) = true then some (.int (i * j)) else none
  | .list xs, .int k => if (small (2 * k) && szOk (xs.length * k.toNat)) = true then some (.list (List.replicate k.toNat xs).flatten) else none
  | _, _ => none
def oMulT : PyData → PyData → Option PyData
  | .tuple xs, .int k => if 0 < xs.length ∧ 1 ≤ k ∧ k ≤ 1000 ∧ xs.length ≤ 1000 then some (.tuple (List.replicate k.toNat xs).flatten) else none
  | _, _ => none
def oMod : PyData → PyData → Option PyData
  | .int i, .int j => if 0 < j then some (.int (i % j)) else none
  | _, _ => none
def oPow : PyData → PyData → Option PyData
  | .int i, .int j => if 0 ≤ j ∧ j ≤ 1000000 ∧ i.natAbs < 2 ^ 64 then some (.int (i ^ j.toNat)) else none
  | _, _ => none
def cCmp (f : Int → Int → Bool) : PyData → PyData → Option Bool
  | .int i, .int j => some (f i j)
  | _, _ => none
abbrev cLt := cCmp fun i j => decide (i < j)
abbrev cLe := cCmp fun i j => decide (i ≤ j)
abbrev cGt := cCmp fun i j => decide (j < i)
def cEqn (n : Bool) : PyData → PyData → Option Bool
  | .str x, .str y => some (Bool.xor n (decide (x = y)))
  | .int x, .int y => some (Bool.xor n (decide (x = y)))
  | a, b => if (SeqAt.shaped a && SeqAt.shaped b) = true then some (Bool.xor n (PyData.eqv a b)) else none
abbrev cEq := cEqn false
abbrev cNe := cEqn true
def isNone : PyData → Bool
  | .none => true
  | _ => false
def cIs (n : Bool) (a b : PyData) : Option Bool := match b with
  | .none => some (Bool.xor n (isNone a))
  | _ => none
def oIx : PyData → PyData → Option PyData
  | .list xs, .int i => atI xs i
  | .tuple xs, .int i => atI xs i
  | _, _ => none
def noList : PyData → Bool
  | .list _ => false
  | _ => true
theorem Rdr.nl {μ : Mu} {s : Sv} {d : PyData} (h : Rdr μ s d) (hd : noList d = true) : s = .dat d := h.imm fun ds z => by
  rw [z] at hd
  cases hd
theorem op_add' : Op2 (pAdd false) oAdd := fun a b da db d μ ra rb e => by
  unfold oAdd at e
  split at e
  · rw [ra.nl rfl, rb.nl rfl]
    cases e
    rfl
  · rw [ra.nl rfl, rb.nl rfl]
    split at e
    · rename_i hs
      cases e
      show (if _ = true then _ else _ : M Sv) μ = _
      rw [if_pos (show szOk _ = true from decide_eq_true hs)]
      rfl
    · cases e
  · rw [ra.nl rfl, rb.nl rfl]
    split at e
    · rename_i hs
      cases e
      show (if _ = true then _ else _ : M Sv) μ = _
      rw [if_pos (show szOk _ = true from decide_eq_true hs)]
      rfl
    · cases e
  · rename_i xs ys
    split at e
    · rename_i hs
      cases e
      have h2 := rb.ls
      have fin : ∀ m : M Sv, (m = if szOk ((xs.map Sv.dat).length + (ys.map Sv.dat).length) = true then mkl false (xs.map Sv.dat ++ ys.map Sv.dat) else M.fail) → m μ = some (.ok (.dat (.list (xs ++ ys))) μ) := fun m hm => by
        rw [hm, if_pos (show szOk _ = true from decide_eq_true (by rw [List.length_map, List.length_map]; exact hs)), ← List.map_append]
        exact mkl_dat _ _
      rcases ra with rfl | ⟨t, ds, rfl, q, z⟩
      · show M.bind (lsOf b) _ μ = _
        rw [bind_ok h2]
        exact fin _ (by rw [List.length_map, List.length_map])
      · cases z
        have h1 : lsOf (.ref t) μ = some (.ok (xs.map Sv.dat) μ) := by
          unfold lsOf
          simp only [q]
        show M.bind (lsOf (.ref t)) _ μ = _
        rw [bind_ok h1, bind_ok h2]
        exact fin _ rfl
    · cases e
  · cases e
theorem op_sub' : Op2 pSub oSub := fun a b da db d μ ra rb e => by
  unfold oSub at e
  split at e
  · rw [ra.nl rfl, rb.nl rfl]
    cases e
    rfl
  · cases e
theorem op_mul' : Op2D (pMul false) oMul := fun da db d μ e => by
  unfold oMul at e
  split at e
  · split at e
    · rename_i hs
      cases e
      show (if _ = true then _ else _ : M Sv) μ = _
      rw [if_pos hs]
      rfl
    · cases e
  · rename_i xs k
    split at e
    · rename_i hs
      cases e
      show (if _ = true then _ else _ : M Sv) μ = _
      rw [if_pos hs]
      have : (List.replicate k.toNat (xs.map Sv.dat)).flatten = ((List.replicate k.toNat xs).flatten).map Sv.dat := by
        rw [List.map_flatten, List.map_replicate]
      rw [this]
      exact mkl_dat _ _
    · cases e
  · cases e
theorem op_mod' : Op2 pMod oMod := fun a b da db d μ ra rb e => by
  unfold oMod at e
  split at e
  · rw [ra.nl rfl, rb.nl rfl]
    split at e
    · rename_i hs
      cases e
      show (if _ = true then _ else _ : M Sv) μ = _
      rw [if_pos (decide_eq_true hs)]
      rfl
    · cases e
  · cases e
theorem op_pow' : Op2 pPow oPow := fun a b da db d μ ra rb e => by
  unfold oPow at e
  split at e
  · rw [ra.nl rfl, rb.nl rfl]
    split at e
    · rename_i hs
      cases e
      show (if _ = true then _ else _ : M Sv) μ = _
      rw [if_pos (by rw [decide_eq_true hs.1, decide_eq_true hs.2.1, decide_eq_true hs.2.2]; rfl)]
      rfl
    · cases e
  · cases e
theorem op_mulT' : Op2 pMulA oMulT := fun a b da db d μ ra rb e => by
  unfold oMulT at e
  split at e
  · rw [ra.nl rfl, rb.nl rfl]
    split at e
    · rename_i hs
      cases e
      show (if _ = true then _ else _ : M Sv) μ = _
      rw [if_pos (by rw [decide_eq_true hs.1, decide_eq_true hs.2.1, decide_eq_true hs.2.2.1, decide_eq_true hs.2.2.2]; rfl)]
      rfl
    · cases e
  · cases e
theorem op_cmp' {f : Int → Int → Bool} : OpB (pCmp f) (cCmp f) := fun a b da db d μ ra rb e => by
  unfold cCmp at e
  split at e
  · rw [ra.nl rfl, rb.nl rfl]
    cases e
    rfl
  · cases e
theorem op_eqn' {n : Bool} : OpB (pEqn n) (cEqn n) := fun a b da db d μ ra rb e => by
  have gen : ∀ {a b : Sv} {da db : PyData}, Rdr μ a da → Rdr μ b db → (if (SeqAt.shaped da && SeqAt.shaped db) = true then some (Bool.xor n (PyData.eqv da db)) else none) = some d → pEqD n a b μ = some (.ok (.dat (.bool d)) μ) := fun {a b da db} ra rb e => by
    split at e
    · rename_i hs
      cases e
      unfold pEqD
      rw [bind_ok ra.rd, bind_ok rb.rd, if_pos hs]
      rfl
    · cases e
  unfold cEqn at e
  split at e
  · rw [ra.nl rfl, rb.nl rfl]
    cases e
    rfl
  · rw [ra.nl rfl, rb.nl rfl]
    cases e
    rfl
  · rename_i h1 h2
    have := gen ra rb e
    unfold pEqn
    split
    · rename_i x y
      rcases ra with z | ⟨t, ds, z, _, _⟩
      · cases z
        rcases rb with z | ⟨t, ds, z, _, _⟩
        · cases z
          exact absurd rfl (h1 x y rfl)
        · cases z
      · cases z
    · rename_i x y
      rcases ra with z | ⟨t, ds, z, _, _⟩
      · cases z
        rcases rb with z | ⟨t, ds, z, _, _⟩
        · cases z
          exact absurd rfl (h2 x y rfl)
        · cases z
      · cases z
    · exact this
theorem isNon_dat (d : PyData) : isNon (.dat d) = isNone d := by cases d <;> rfl
theorem op_is' {n : Bool} : OpB (pIs n) (cIs n) := fun a b da db d μ ra rb e => by
  unfold cIs at e
  split at e
  · rw [rb.nl rfl]
    cases e
    rcases ra with rfl | ⟨t, ds, rfl, _, rfl⟩
    · show some (Res.ok (Sv.dat (.bool (Bool.xor n (isNon (.dat da))))) μ) = _
      rw [isNon_dat]
    · rfl
  · cases e
theorem op_ix' : Op2 pIx oIx := fun a b da db d μ ra rb e => by
  unfold oIx at e
  split at e
  · rename_i xs i
    rw [rb.nl rfl]
    have hx : atI (xs.map Sv.dat) i = some (.dat d) := atI_map e
    rcases ra with rfl | ⟨t, ds, rfl, q, z⟩
    · simp only [pIx, lsOf, M.bind, hx, orFail, e, Option.map]
    · cases z
      simp only [pIx, lsOf, M.bind, q, hx, orFail, e, Option.map]
  · rename_i xs i
    rw [ra.nl rfl, rb.nl rfl]
    simp only [pIx, M.bind, e, orFail, Option.map, M.ret]
  · cases e
/-! built-ins -/
def oLen : PyData → Option PyData
  | .tuple ds => some (.int ds.length)
  | .list ds => some (.int ds.length)
  | .str x => if x.length ≤ 1000000 then some (.int x.length) else none
  | _ => none
def oAbs : PyData → Option PyData
  | .int i => some (.int (if i < 0 then -i else i))
  | _ => none
def oMax2 : PyData → PyData → Option PyData
  | .int i, .int j => some (.int (if j > i then j else i))
  | _, _ => none
def oBest (f : Int → Int → Int) : PyData → Option PyData
  | .list ds => match asInts ds with
    | some (n :: r) => some (.int (r.foldl f n))
    | _ => none
  | .tuple ds => match asInts ds with
    | some (n :: r) => some (.int (r.foldl f n))
    | _ => none
  | _ => none
def oTuple : PyData → Option PyData
  | .list ds => some (.tuple ds)
  | .tuple ds => some (.tuple ds)
  | _ => none
def oList : PyData → Option PyData
  | .list ds => some (.list ds)
  | .tuple ds => some (.list ds)
  | _ => none
def oRepr (d : PyData) : Option PyData := if okShow d = true then some (.str d.shown) else none
def oInt : PyData → Option PyData
  | .bool b => some (.int (if b = true then 1 else 0))
  | _ => none
theorem bl_abs : Bl1 bAbs oAbs := fun a da d μ ra e => by
  unfold oAbs at e
  split at e
  · rw [ra.nl rfl]
    cases e
    rfl
  · cases e
theorem bl_int : Bl1 bInt oInt := fun a da d μ ra e => by
  unfold oInt at e
  split at e
  · rw [ra.nl rfl]
    cases e
    rfl
  · cases e
theorem bl_repr : Bl1 bRepr oRepr := fun a da d μ ra e => by
  unfold oRepr at e
  split at e
  · rename_i hs
    cases e
    unfold bRepr
    dsimp only
    rw [bind_ok ra.rd, if_pos hs]
    rfl
  · cases e
theorem bl_max2 : Bl2 bMax2 oMax2 := fun da db d μ e => by
  unfold oMax2 at e
  split at e
  · cases e
    rfl
  · cases e
theorem bl_len : Bl1 bLen oLen := fun a da d μ ra e => by
  unfold oLen at e
  split at e
  · rw [ra.nl rfl]
    cases e
    rfl
  · rename_i xs
    cases e
    have h := ra.ls
    have : bLen [a] = (lsOf a).bind fun xs => M.ret (.dat (.int xs.length)) := by
      rcases ra with rfl | ⟨t, ds, rfl, q, z⟩ <;> rfl
    rw [this, bind_ok h, List.length_map]
    rfl
  · rw [ra.nl rfl]
    split at e
    · rename_i hs
      cases e
      show (if _ = true then _ else _ : M Sv) μ = _
      rw [if_pos (show szOk _ = true from decide_eq_true hs)]
      rfl
    · cases e
  · cases e
theorem bl_tuple : Bl1 bTuple oTuple := fun a da d μ ra e => by
  unfold oTuple at e
  split at e
  · rename_i xs
    cases e
    have h := ra.ls
    have : bTuple [a] = (lsOf a).bind fun xs => mkt xs := by
      rcases ra with rfl | ⟨t, ds, rfl, q, z⟩ <;> rfl
    rw [this, bind_ok h]
    unfold mkt
    rw [dats_map]
    rfl
  · rw [ra.nl rfl]
    cases e
    rfl
  · cases e
theorem bl_list : Bl1 (bList false) oList := fun a da d μ ra e => by
  unfold oList at e
  split at e
  · rename_i xs
    cases e
    have h := ra.ls
    have : bList false [a] = (lsOf a).bind fun xs => mkl false xs := by
      rcases ra with rfl | ⟨t, ds, rfl, q, z⟩ <;> rfl
    rw [this, bind_ok h]
    exact mkl_dat _ _
  · rw [ra.nl rfl]
    cases e
    exact mkl_dat _ _
  · cases e
theorem bl_best {f : Int → Int → Int} : Bl1 (bBest f) (oBest f) := fun a da d μ ra e => by
  unfold bBest
  dsimp only
  rw [bind_ok ra.rd]
  unfold oBest at e
  split at e
  · rename_i ds
    try dsimp only
    split at e
    · rename_i n r q
      cases e
      rw [bind_ok (show orFail (asInts ds) μ = some (.ok (n :: r) μ) by rw [q]; rfl)]
      rfl
    · cases e
  · rename_i ds
    try dsimp only
    split at e
    · rename_i n r q
      cases e
      rw [bind_ok (show orFail (asInts ds) μ = some (.ok (n :: r) μ) by rw [q]; rfl)]
      rfl
    · cases e
  · cases e
def oAll : PyData → Option PyData
  | .list ds => (asBools ds).map fun bs => .bool (bs.all id)
  | _ => none
theorem bl_bool {f : List Bool → Bool} {o : PyData → Option PyData} (ho : ∀ d, o d = match d with | .list ds => (asBools ds).map fun bs => PyData.bool (f bs) | _ => none) : Bl1 (bBool f) o := fun a da d μ ra e => by
  rw [ho] at e
  split at e
  · rename_i ds
    unfold bBool
    dsimp only
    rw [bind_ok ra.rd]
    cases q : asBools ds with
    | none =>
      rw [q] at e
      cases e
    | some bs =>
      rw [q] at e
      cases e
      dsimp only
      rw [bind_ok (show orFail (asBools ds) μ = some (.ok bs μ) by rw [q]; rfl)]
      rfl
  · cases e
theorem bl_all : Bl1 bAll oAll := bl_bool fun d => by cases d <;> rfl
/-! slices, isinstance, choices of new lists -/
section
variable {l l1 l2 l3 : En} {Fa Fb Fc : Rho → M Sv} {ta tb tc : S PyData}
abbrev pO (l : En) : Post (Option Int) (Option Int) := fun k rest ρ μ a d => a = d ∧ EnvR l k rest ρ μ
theorem p_no : Jd l noPart (S.ret none) (pO l) := fun k rest ρ μ e => Jl.ret ⟨rfl, e⟩
theorem p_so (h : Jd l Fa ta (pV l1)) : Jd l (aPart Fa) (ta.bind fun a => S.lift ((toI a).map some)) (pO l1) := fun k rest ρ μ e => by
  refine (h k rest ρ μ e).bind fun k1 μ1 a da ⟨z, e1⟩ => ?_
  subst z
  refine Jl.lift fun b q => ?_
  cases da <;> cases q
  exact ⟨_, μ1, rfl, rfl, e1⟩
def oSl (d : PyData) (lo hi : Option Int) : Option PyData := match d with
  | .tuple ds => some (.tuple (cutL ds lo hi))
  | .list ds => some (.list (cutL ds lo hi))
  | .str z => if z.length ≤ 1000000 then some (.str (cutS z lo hi)) else none
  | _ => none
theorem e_sl {Fl Fh : Rho → M (Option Int)} {tl th : S (Option Int)} (h : Jd l Fa ta (pV l1)) (h1 : Jd l1 Fl tl (pO l2)) (h2 : Jd l2 Fh th (pO l3)) : Jd l (slV false Fa Fl Fh) (ta.bind fun a => tl.bind fun lo => th.bind fun hi => S.lift (oSl a lo hi)) (pV l3) := fun k rest ρ μ e => by
  refine (h k rest ρ μ e).bind fun k1 μ1 a da ⟨z, e1⟩ => ?_
  subst z
  refine (h1 k1 rest ρ μ1 e1).bind fun k2 μ2 lo lo' ⟨z, e2⟩ => ?_
  subst z
  refine (h2 k2 rest ρ μ2 e2).bind fun k3 μ3 hi hi' ⟨z, e3⟩ => ?_
  subst z
  refine Jl.lift fun d q => ⟨.dat d, μ3, ?_, rfl, e3⟩
  cases da with
  | tuple ds =>
    cases q
    rfl
  | list ds =>
    cases q
    show mkl false (cutL (ds.map Sv.dat) lo hi) μ3 = _
    rw [cutL_map]
    exact mkl_dat _ _
  | str z =>
    dsimp only [oSl] at q
    by_cases hs : z.length ≤ 1000000
    · rw [if_pos hs] at q
      cases q
      show (if _ = true then _ else _ : M Sv) μ3 = _
      rw [if_pos (show szOk _ = true from decide_eq_true hs)]
      rfl
    · rw [if_neg hs] at q
      cases q
  | _ => cases q
def oRevT : PyData → Option PyData
  | .tuple ds => some (.tuple ds.reverse)
  | _ => none
theorem e_revT (h : Jd l Fa ta (pV l1)) : Jd l (revTV Fa) (ta.bind fun a => S.lift (oRevT a)) (pV l1) := fun k rest ρ μ e => by
  refine (h k rest ρ μ e).bind fun k1 μ1 a da ⟨ra, e1⟩ => ?_
  subst ra
  refine Jl.lift fun d q => ⟨.dat d, μ1, ?_, rfl, e1⟩
  cases da <;> cases q
  rfl
def oIsi (n : String) (d : PyData) : Option PyData := (kitB (tyN (.dat d)) n).bind fun b => if isOb d = true then (if n ∈ kitTys then some (.bool false) else none) else some (.bool b)
theorem e_isi (n : String) (h : Jd l Fa ta (pV l1)) : Jd l (isiV n Fa) (ta.bind fun a => S.lift (oIsi n a)) (pV l1) := fun k rest ρ μ e => by
  refine (h k rest ρ μ e).bind fun k1 μ1 a da ⟨ra, e1⟩ => ?_
  subst ra
  refine Jl.lift fun d q => ⟨.dat d, μ1, ?_, rfl, e1⟩
  unfold oIsi at q
  unfold isi
  cases z : kitB (tyN (.dat da)) n with
  | none =>
    rw [z] at q
    cases q
  | some b =>
    rw [z] at q
    have q : (if isOb da = true then (if n ∈ kitTys then some (PyData.bool false) else none) else some (PyData.bool b)) = some d := q
    show (if isOb da = true then (if n ∈ kitTys then some (Res.ok (Sv.dat (PyData.bool false)) μ1) else none) else some (Res.ok (Sv.dat (PyData.bool b)) μ1)) = _
    split at q
    · rename_i h1
      rw [if_pos h1]
      split at q
      · rename_i h2
        cases q
        rw [if_pos h2]
      · cases q
    · rename_i h1
      cases q
      rw [if_neg h1]
theorem w_enA (h : Jd l Fa ta (pV l1)) : Jd l (enuA Fa) (ta.bind fun a => S.lift ((seqD a).map enuD)) (pL l1) := fun k rest ρ μ e => by
  refine (h k rest ρ μ e).bind fun k1 μ1 a da ⟨z, e1⟩ => ?_
  subst z
  refine Jl.lift fun ds q => ?_
  cases da <;> cases q <;> exact ⟨_, μ1, rfl, rfl, e1⟩
theorem b_tgF {σ τ : Type} {x : Bool} {T : Sv → Rho → M Rho} {B : Rho → M Out} {u : PyData → S σ} {tb : σ → S (Fl τ)} {e' : σ → En} {h : τ → En} (d : PyData) (hT : Jd l (T (.dat d)) (u d) (pT e')) (hb : ∀ s, Jd (e' s) B (tb s) (pS x h)) : Jd l (fun ρ => (T (.dat d) ρ).bind B) ((u d).bind tb) (pS x h) := fun k rest ρ μ e => by
  refine (hT k rest ρ μ e).bind fun k1 μ1 a s e1 => ?_
  exact hb s k1 rest a μ1 e1
theorem r_raise {C f : Str} (h : Jd l Fa ta (pV l1)) {G : Rho → M Out} (hG : G = fun ρ => (Fa ρ).bind fun s => M.thr ⟨C, some (f, s)⟩) : Jd l G (ta.bind fun d => S.thr ⟨C, some (f, d)⟩) pR := fun k rest ρ μ e => by
  subst hG
  refine (h k rest ρ μ e).bind fun k1 μ1 a da ⟨z, e1⟩ => ?_
  subst z
  intro r k' q
  cases q
  obtain ⟨g, hg⟩ := e1.pre
  exact ⟨g, by rw [hg]; rfl⟩
end
end Pf

set_option maxHeartbeats 1000000
namespace Pf
open PySem PySem.Spec PyProof.Rows L2
end Pf

set_option maxHeartbeats 1000000
namespace Pf
open PySem PySem.Spec PyProof.Rows L2
end Pf

set_option maxHeartbeats 1000000
namespace Pf
open PySem PySem.Spec PyProof.Rows L2
/-! ### indexing -/
theorem oIx_t {α : Type} {f : α → PyData} {xs : List α} {k : Nat} {x : α} (h : xs[k]? = some x) : oIx (.tuple (xs.map f)) (.int (k : Int)) = some (f x) := atI_map (atI_nat h)
theorem oIx_row0 (r : Int × Int) : oIx (rowD r) (.int 0) = some (.int r.1) := rfl
theorem oIx_row1 (r : Int × Int) : oIx (rowD r) (.int 1) = some (.int r.2) := rfl
theorem oNeg1 : oNeg (.int 1) = some (.int (-1)) := rfl
theorem oSub_i (i j : Int) : oSub (.int i) (.int j) = some (.int (i - j)) := rfl
theorem oAdd_i (i j : Int) : oAdd (.int i) (.int j) = some (.int (i + j)) := rfl
theorem cNe_i (i j : Int) : cEqn true (.int i) (.int j) = some (!decide (i = j)) := by
  show some (Bool.xor true _) = _
  rw [Bool.true_xor]
theorem cEq_i (i j : Int) : cEqn false (.int i) (.int j) = some (decide (i = j)) := by
  show some (Bool.xor false _) = _
  rw [Bool.false_xor]
theorem cGt_i (i j : Int) : cGt (.int i) (.int j) = some (decide (j < i)) := rfl
theorem cLt_i (i j : Int) : cLt (.int i) (.int j) = some (decide (i < j)) := rfl
theorem cLe_i (i j : Int) : cLe (.int i) (.int j) = some (decide (i ≤ j)) := rfl
theorem appD_ok {ds : List PyData} {d : PyData} (h : ds.length + 1 ≤ 1000000) : appD ds d = some (ds ++ [d]) := if_pos h
theorem oAdd_l {xs ys : List PyData} (h : xs.length + ys.length ≤ 1000000) : oAdd (.list xs) (.list ys) = some (.list (xs ++ ys)) := if_pos h
theorem oAdd_t {xs ys : List PyData} (h : xs.length + ys.length ≤ 1000000) : oAdd (.tuple xs) (.tuple ys) = some (.tuple (xs ++ ys)) := if_pos h
theorem szD_ok {ds : List PyData} (h : ds.length ≤ 1000000) : szD ds = some ⟨⟩ := if_pos (show szOk ds.length = true from decide_eq_true h)
theorem rngD_ok {n : Nat} (h : n ≤ 1000000000) : rngD (.int (n : Int)) = some (fromTo 0 n) := by
  show (if big62 (n : Int) = true then some (fromTo 0 (n : Int).toNat) else none) = _
  rw [if_pos (big62_small (by omega) (by omega)), Int.toNat_natCast]
theorem fromTo_map (n : Nat) : fromTo 0 n = (List.range n).map mkD := by
  unfold fromTo
  refine List.map_congr_left fun k _ => ?_
  show PyData.int (0 + (k : Int)) = .int k
  rw [Int.zero_add]
theorem S.bind_ex {α β : Type} {m : S α} {u : α → S β} {r : S β} {P : α → Prop} (h : ∃ a, m = S.ret a ∧ P a) (k : ∀ a, P a → u a = r) : m.bind u = r := by
  obtain ⟨a, e, p⟩ := h
  rw [e]
  exact k a p
theorem S.bind_eq {α β : Type} {m : S α} {u : α → S β} {r : S β} {a : α} (h : m = S.ret a) (k : u a = r) : m.bind u = r := by
  rw [h]
  exact k
theorem S.foldM_ex {α σ : Type} {f : σ → α → S σ} (I : Nat → σ → Prop) {xs : List α} {s : σ} (h0 : I 0 s) (st : ∀ (i : Nat) (s : σ) (x : α), I i s → xs[i]? = some x → ∃ s', f s x = S.ret s' ∧ I (i + 1) s') : ∃ s', S.foldM f xs s = S.ret s' ∧ I xs.length s' := by
  have := S.foldM_inv (f := f) I (xs := xs) (s := s) (k := 0) h0 fun i s x hi hx => by
    rw [Nat.zero_add] at hi ⊢
    exact st i s x hi hx
  rwa [Nat.zero_add] at this
theorem S.foldM_bind {α σ β : Type} {f : σ → α → S σ} (I : Nat → σ → Prop) {xs : List α} {s : σ} {u : σ → S β} {r : S β} (h0 : I 0 s) (st : ∀ (i : Nat) (s : σ) (x : α), I i s → xs[i]? = some x → ∃ s', f s x = S.ret s' ∧ I (i + 1) s') (k : ∀ s, I xs.length s → u s = r) : (S.foldM f xs s).bind u = r := S.bind_ex (S.foldM_ex I h0 st) k
theorem S.foldM_eq {α σ : Type} {f : σ → α → S σ} (I : Nat → σ → Prop) {xs : List α} {s r : σ} (h0 : I 0 s) (st : ∀ (i : Nat) (s : σ) (x : α), I i s → xs[i]? = some x → ∃ s', f s x = S.ret s' ∧ I (i + 1) s') (k : ∀ s, I xs.length s → s = r) : S.foldM f xs s = S.ret r := by
  obtain ⟨s', e, h⟩ := S.foldM_ex (f := f) I h0 st
  rw [e, k s' h]
def wayD (w : List Nat) : PyData := .tuple (w.map mkD)
theorem un2_t (a b : PyData) : un2 (.tuple [a, b]) = some (a, b) := rfl
/-! ### ways -/
structure TreeG (rows : List (Int × Int)) : Prop where
  ok : TreeOk rows
  len : rows.length ≤ 11
/-! ### distances -/
end Pf

set_option maxHeartbeats 1000000
namespace Pf
open PySem PySem.Spec PyProof.Rows L2
/-! ### windows -/
theorem toB_b (b : Bool) : toB (.bool b) = some b := rfl
theorem asB2_b (b : Bool) : asB2 (some b) = some (.bool b) := rfl
/-! ### a search that returns -/
theorem foldF_find {α : Type} {xs : List α} {enc : α → PyData} {f : PUnit → PyData → S (Fl PUnit)} {g : α → Option PyData} (h : ∀ x ∈ xs, f ⟨⟩ (enc x) = S.ret (match g x with | some v => .rt v | none => .nx ⟨⟩)) :
    S.foldF f (xs.map enc) ⟨⟩ = S.ret (match xs.findSome? g with | some v => .rt v | none => .nx ⟨⟩) := by
  induction xs with
  | nil => rfl
  | cons x xs ih =>
    rw [List.map_cons]
    unfold S.foldF
    rw [h x List.mem_cons_self, S.ret_bind, List.findSome?_cons]
    cases e : g x with
    | some v => rfl
    | none => exact ih fun y hy => h y (List.mem_cons_of_mem _ hy)
def flO (o : Option PyData) : Fl PUnit := match o with
  | some v => .rt v
  | none => .nx ⟨⟩
theorem foldF_find' {α : Type} {xs : List α} {enc : α → PyData} {f : PUnit → PyData → S (Fl PUnit)} (g : α → Option PyData) (h : ∀ x ∈ xs, f ⟨⟩ (enc x) = S.ret (flO (g x))) : S.foldF f (xs.map enc) ⟨⟩ = S.ret (flO (xs.findSome? g)) := foldF_find h
end Pf

set_option maxHeartbeats 1000000
namespace Pf
open PySem PySem.Spec PyProof.Rows L2
/-! ### what draws can give -/
/-- which decks a law has -/
class Fam where
  good : Dk → Prop
section
variable [Fam]
def Can {α : Type} (n : Nat) (m : S α) (P : α → Prop) : Prop := ∀ k, Fam.good k → k.n + n ≤ 10000000 → ∃ a k', m k = some (.ok a, k') ∧ P a ∧ Fam.good k' ∧ k.n ≤ k'.n ∧ k'.n ≤ k.n + n
section
variable {α β σ : Type} {n n' : Nat} {m : S α} {P Q : α → Prop} {R : β → Prop}
theorem Can.ret {a : α} (h : P a) : Can 0 (S.ret a) P := fun k g _ => ⟨a, k, rfl, h, g, Int.le_refl _, by omega⟩
theorem Can.bind {f : α → S β} (h : Can n m P) (hf : ∀ a, P a → Can n' (f a) R) : Can (n + n') (m.bind f) R := fun k g hb => by
  obtain ⟨a, k1, e1, p, g1, l1, u1⟩ := h k g (by omega)
  obtain ⟨b, k2, e2, q, g2, l2, u2⟩ := hf a p k1 g1 (by omega)
  refine ⟨b, k2, ?_, q, g2, by omega, by omega⟩
  unfold S.bind
  rw [e1]
  exact e2
theorem Can.up (h : Can n m P) (hn : n ≤ n') : Can n' m P := fun k g hb => by
  obtain ⟨a, k1, e1, p, g1, l1, u1⟩ := h k g (by omega)
  exact ⟨a, k1, e1, p, g1, l1, by omega⟩
theorem Can.imp (h : Can n m P) (hp : ∀ a, P a → Q a) : Can n m Q := fun k g hb => by
  obtain ⟨a, k1, e1, p, g1, l1, u1⟩ := h k g hb
  exact ⟨a, k1, e1, hp a p, g1, l1, u1⟩
theorem Can.eq {m' : S α} (h : Can n m' P) (e : m = m') : Can n m P := e ▸ h
theorem Can.noEx (h : Can n m P) : Can n (S.noEx m) P := fun k g hb => by
  obtain ⟨a, k1, e1, p, g1, l1, u1⟩ := h k g hb
  refine ⟨a, k1, ?_, p, g1, l1, u1⟩
  unfold S.noEx
  rw [e1]
theorem Can.mapM {f : α → S β} {P : Nat → β → Prop} : ∀ {xs : List α} (j : Nat), (∀ (i : Nat) (x : α), xs[i]? = some x → Can n (f x) (P (j + i))) → Can (n * xs.length) (S.mapM f xs) fun ys => ys.length = xs.length ∧ ∀ (i : Nat) (y : β), ys[i]? = some y → P (j + i) y
  | [], j, _ => Can.ret ⟨rfl, fun i y h => by simp at h⟩
  | x :: xs, j, h => by
    have h0 := h 0 x rfl
    have ih := Can.mapM (xs := xs) (P := P) (f := f) (j + 1) fun i y e => by
      have := h (i + 1) y (by simpa using e)
      rw [show j + 1 + i = j + (i + 1) by omega]
      exact this
    have : n * (x :: xs).length = n + (n * xs.length + 0) := by rw [List.length_cons, Nat.mul_add]; omega
    rw [this]
    unfold S.mapM
    refine h0.bind fun b hb => ih.bind fun bs hbs => Can.ret ⟨by rw [List.length_cons, List.length_cons, hbs.1], fun i y e => ?_⟩
    cases i with
    | zero =>
      simp at e
      subst e
      exact hb
    | succ i =>
      have := hbs.2 i y (by simpa using e)
      rw [show j + (i + 1) = j + 1 + i by omega]
      exact this
theorem Can.foldM {f : σ → α → S σ} (I : Nat → σ → Prop) : ∀ {xs : List α} {s : σ} (j : Nat), I j s → (∀ (i : Nat) (s : σ) (x : α), I (j + i) s → xs[i]? = some x → Can n (f s x) (I (j + i + 1))) → Can (n * xs.length) (S.foldM f xs s) (I (j + xs.length))
  | [], s, j, h, _ => Can.ret h
  | x :: xs, s, j, h, st => by
    have h0 := st 0 s x h rfl
    have : n * (x :: xs).length = n + n * xs.length := by rw [List.length_cons, Nat.mul_add]; omega
    rw [this, show j + (x :: xs).length = j + 1 + xs.length by rw [List.length_cons]; omega]
    unfold S.foldM
    refine h0.bind fun s1 h1 => Can.foldM I (xs := xs) (j + 1) h1 fun i s y hi e => ?_
    rw [show j + 1 + i = j + (i + 1) by omega] at hi ⊢
    exact st (i + 1) s y hi (by simpa using e)
def isNx (I : σ → Prop) : Fl σ → Prop
  | .nx s => I s
  | _ => False
theorem Can.foldF {f : σ → PyData → S (Fl σ)} (I : Nat → σ → Prop) : ∀ {xs : List PyData} {s : σ} (j : Nat), I j s → (∀ (i : Nat) (s : σ) (x : PyData), I (j + i) s → xs[i]? = some x → Can n (f s x) (isNx (I (j + i + 1)))) → Can (n * xs.length) (S.foldF f xs s) (isNx (I (j + xs.length)))
  | [], s, j, h, _ => Can.ret h
  | x :: xs, s, j, h, st => by
    have h0 := st 0 s x h rfl
    have : n * (x :: xs).length = n + n * xs.length := by rw [List.length_cons, Nat.mul_add]; omega
    rw [this, show j + (x :: xs).length = j + 1 + xs.length by rw [List.length_cons]; omega]
    unfold S.foldF
    refine h0.bind fun o h1 => ?_
    cases o with
    | nx s1 =>
      refine Can.foldF I (xs := xs) (j + 1) h1 fun i s y hi e => ?_
      rw [show j + 1 + i = j + (i + 1) by omega] at hi ⊢
      exact st (i + 1) s y hi (by simpa using e)
    | _ => exact h1.elim
end
end
theorem oIx_mem {xs : List PyData} {i : Int} (h0 : 0 ≤ i) (h1 : i < xs.length) : ∃ x, x ∈ xs ∧ oIx (.list xs) (.int i) = some x := atI_mem h0 h1
theorem oPow_k {i j : Int} (h : 0 ≤ j ∧ j ≤ 1000000 ∧ i.natAbs < 2 ^ 64) : oPow (.int i) (.int j) = some (.int (i ^ j.toNat)) := if_pos h
theorem p106 : oPow (.int 10) (.int 6) = some (.int 1000000) := by
  rw [oPow_k (by decide)]
  rfl
theorem p109 : oPow (.int 10) (.int 9) = some (.int 1000000000) := by
  rw [oPow_k (by decide)]
  rfl
theorem oTuple_l (ds : List PyData) : oTuple (.list ds) = some (.tuple ds) := rfl
end Pf

set_option maxHeartbeats 1000000
namespace Pf
open PySem PySem.Spec PyProof.Rows L2
/-! ### what is shown -/
theorem Fine.non : Fine .none 44 0 := ⟨by simp only [lfs], by simp only [PyData.hasDict], by simp only [PyData.depth]; exact Nat.le_refl _, by simp only [wt]; decide⟩
theorem Fine.bool (b : Bool) : Fine (.bool b) 44 0 := ⟨by simp only [lfs], by simp only [PyData.hasDict], by simp only [PyData.depth]; exact Nat.le_refl _, by simp only [wt]; decide⟩
theorem fine_int {i : Int} (h : -1000000000000 ≤ i ∧ i ≤ 1000000000000) : Fine (.int i) 44 0 := .int (Nat.lt_of_le_of_lt (show i.natAbs ≤ 1000000000000 by omega) (by decide +kernel))
theorem Fine.pair {a b : PyData} {n k : Nat} (ha : Fine a n k) (hb : Fine b n k) : Fine (.list [a, b]) ((n + 2) * 2 + 2) (k + 1) := Fine.list fun d hd => by
  rcases List.mem_cons.mp hd with rfl | hd
  · exact ha
  · rw [List.mem_singleton.mp hd]
    exact hb
theorem cNe_s (x : Str) : cEqn true (.str x) (.str x) = some false := by
  show some (Bool.xor true (decide (x = x))) = _
  rw [decide_eq_true rfl]
  rfl
theorem cEq_s (x : Str) : cEqn false (.str x) (.str x) = some true := by
  show some (Bool.xor false (decide (x = x))) = _
  rw [decide_eq_true rfl]
  rfl
theorem oMod_k {i j : Int} (h : 0 < j) : oMod (.int i) (.int j) = some (.int (i % j)) := if_pos h
end Pf

set_option maxHeartbeats 1000000
namespace Pf
open PySem PySem.Spec PyProof.Rows L2
theorem law_start [Fam] {N n : Nat} (hN : 2 ≤ N) {Fd : List Sv → M Sv} {R : Rho → M Out} {T : S PyData} (hd : ∀ ns : List Int, ∃ k, Fd [.scr ns] [] = some (.ok (.ref 1) (dkO k)) ∧ Fam.good k ∧ k.n = 0)
    (tt : Jd (none :: some .dk :: List.replicate (N - 2) none) R T pR) (can : Can n T fun d => d = .bool true) (hn : n ≤ 10000000) (ns : List Int) :
    ∃ μ, strip N (gSeq (gSet 1 (callF Fd 1 (argC (slot 0) argN))) R) [.scr ns] [] = some (.ok (.dat (.bool true)) μ) := by
  obtain ⟨k, ek, gk, k0⟩ := hd ns
  have hi : ini N [.scr ns] = some (.scr ns) :: none :: List.replicate (N - 2) none := by
    unfold ini
    show some (Sv.scr ns) :: List.replicate (N - 1) none = _
    rw [show N - 1 = (N - 2) + 1 by omega, List.replicate_succ]
  have q1 : gSet 1 (callF Fd 1 (argC (slot 0) argN)) (ini N [.scr ns]) [] = some (.ok (.nx (some (.scr ns) :: some (.ref 1) :: List.replicate (N - 2) none)) (dkO k)) := by
    rw [hi]
    refine gset_at (s := .ref 1) ?_
    rw [call1_at (show slot 0 _ _ = some (.ok (.scr ns) []) from rfl)]
    exact ek
  have env : EnvR (none :: some .dk :: List.replicate (N - 2) none) k [] (some (.scr ns) :: some (.ref 1) :: List.replicate (N - 2) none) (dkO k) := by
    refine ⟨⟨[], by rw [List.append_nil, List.append_nil]⟩, by simp, fun i x e => ?_, fun i j xs ys t e1 e2 => ?_⟩
    · match i with
      | 0 => cases e
      | 1 =>
        cases e
        exact ⟨_, rfl, rfl⟩
      | i + 2 =>
        have := List.eq_of_mem_replicate (List.mem_of_getElem? (show (List.replicate (N - 2) (none : Option Sk))[i]? = some (some x) from e))
        cases this
    · match i with
      | 0 => cases e1
      | 1 => cases e1
      | i + 2 =>
        have := List.eq_of_mem_replicate (List.mem_of_getElem? (show (List.replicate (N - 2) (none : Option Sk))[i]? = some (some (.mt xs)) from e1))
        cases this
  obtain ⟨d, k', et, rfl, _⟩ := can k gk (by omega)
  obtain ⟨a, μ', w, rfl, _⟩ := tt k [] _ _ env _ _ et
  refine ⟨μ', strip_rt ?_⟩
  rw [seq_at q1]
  exact w
end Pf

set_option maxHeartbeats 1000000
namespace Pf
open PySem PySem.Spec PyProof.Rows L2
/-! ### the deck of the laws k09 to k17, k66 -/
structure dGood (k : Dk) : Prop where
  n0 : 0 ≤ k.n
  pos : ∀ c ∈ k.cs, 0 ≤ c
  len : k.cs.length ≤ 63
  ce : k.ce = none
end Pf

set_option maxHeartbeats 1000000
namespace Pf
open PySem PySem.Spec PyProof.Rows L2
instance famN : Fam := ⟨dGood⟩
/-! ### the law's own call -/
def GdeckN (m : Int) : Rho → M Out :=
  (gRet (lstV true (argC (lcV true [1] (seqV (slV false (slot 0) noPart (aPart (con (.int m))))) (gNm 1) yes (callV bAbs (argC (slot 1) argN))) (argC (con (.int 0)) argN))))
theorem deck_madeN {m : Nat} (hm : m ≤ 63) (ns : List Int) : ∃ k, strip 2 (GdeckN (m : Int)) [.scr ns] [] = some (.ok (.ref 1) (dkO k)) ∧ dGood k ∧ k.n = 0 := by
  have hcut : cutL ns none (some (m : Int)) = ns.take m := by
    unfold cutL
    rw [HT.sIx_none]
    show (ns.drop 0).take (HT.sIx ns.length ns.length (some ((m : Nat) : Int)) - 0) = _
    rw [HT.sIx_nat, List.drop_zero, Nat.sub_zero]
    rcases Nat.le_total m ns.length with h | h
    · rw [Nat.min_eq_left h]
    · rw [Nat.min_eq_right h, List.take_of_length_le (Nat.le_refl _), List.take_of_length_le h]
  generalize hxs : ns.take m = xs at hcut
  have hlen : xs.length ≤ 63 := by
    rw [← hxs, List.length_take]
    omega
  let ds := xs.map fun n => PyData.int n
  have e1 : dats (xs.map fun n => Sv.dat (.int n)) = some ds := by
    have := dats_map ds
    rw [List.map_map] at this
    exact this
  have e2 : lcL (gNm 1) yes (callV bAbs (argC (slot 1) argN)) ds (wipeR [some (.scr ns), none] [1]) [] = some (.ok (ds.map fun d => match d with | .int i => svI (if i < 0 then -i else i) | _ => svI 0) []) := by
    refine lcL_map _ fun d hd => ?_
    obtain ⟨i, _, rfl⟩ := List.mem_map.mp hd
    exact ⟨_, rfl, rfl⟩
  have e3 : (ds.map fun d => match d with | .int i => svI (if i < 0 then -i else i) | _ => svI 0) = (xs.map fun i => if i < 0 then -i else i).map svI := by
    rw [List.map_map, List.map_map]
    rfl
  have sz : szOk ds.length = true := decide_eq_true (by rw [List.length_map]; omega)
  have e : GdeckN (m : Int) [some (.scr ns), none] [] = some (.ok (.rt (.ref 1)) (dkO ⟨xs.map fun i => if i < 0 then -i else i, 0, none⟩)) := by
    simp only [GdeckN, gRet, lstV, argC, lcV, seqV, slV, slot, noPart, aPart, con, asI, M.bind, M.ret, pSl, hcut, mkl, e1, Option.map, seqOf, List.getElem?_cons_zero, sz, if_true, e2, e3, argN, List.length_cons, List.length_nil]
    rfl
  refine ⟨_, strip_rt e, ⟨Int.le_refl _, fun c hc => ?_, by rw [List.length_map]; exact hlen, rfl⟩, rfl⟩
  obtain ⟨i, _, rfl⟩ := List.mem_map.mp hc
  split <;> omega
end Pf

set_option maxHeartbeats 1000000
namespace Pf
open PySem PySem.Spec PyProof.Rows L2
/-! ### the deck of the laws k00 to k08 -/
def tailA (cell n L : Int) : Int := (cell % 2147483587 + 7919 * n + 1) ^ (5 : Int).toNat % 2147483647 / 7 % L
def drawA (k : Dk) (L : Int) : Int × Dk :=
  match k.cs[((k.n + 1) % (k.cs.length : Int)).toNat]? with
  | none => (tailA 0 (k.n + 1) L, ⟨k.cs, k.n + 1, k.ce⟩)
  | some c => if 10 ^ 18 ≤ c then (c % L, ⟨k.cs.set ((k.n + 1) % (k.cs.length : Int)).toNat (c / L), k.n + 1, k.ce⟩) else (tailA c (k.n + 1) L, ⟨k.cs, k.n + 1, k.ce⟩)
open Classical in
noncomputable def TdrawA : PyData → S PyData
  | .int L => fun k => if 0 < L ∧ L < 1073741824 ∧ dGood k ∧ k.n < 10 ^ 12 then some (.ok (.int (drawA k L).1), (drawA k L).2) else none
  | _ => S.fail
theorem tailA_run {cell n L : Int} {cs : List Int} {R : Mu} (i : Sv) (hc : 0 ≤ cell) (h0 : 0 ≤ n) (h1 : n ≤ 10 ^ 12) (hL : 0 < L) :
    (gRet (bin pMod (bin pFdiv (bin pMod (bin pPow (bin (pAdd false) (bin (pAdd false) (bin pMod (slot 2) (con (.int 2147483587))) (bin (pMul false) (con (.int 7919)) (bin pIx (slot 0) (con (.int 1))))) (con (.int 1))) (con (.int 5))) (con (.int 2147483647))) (con (.int 7))) (slot 1)))
      [some (.ref 1), some (svI L), some (svI cell), some i] (deckMu cs n R) = some (.ok (.rt (svI (tailA cell n L))) (deckMu cs n R)) := by
  have b1 : 0 ≤ cell % 2147483587 := Int.emod_nonneg _ (by decide)
  have b2 : cell % 2147483587 < 2147483587 := Int.emod_lt_of_pos _ (by decide)
  have c1 : (small 7919 || small n) = true := rfl
  have c2 : (decide ((0 : Int) ≤ 5) && decide ((5 : Int) ≤ 1000000) && decide ((cell % 2147483587 + 7919 * n + 1).natAbs < 2 ^ 64)) = true := by
    have : (cell % 2147483587 + 7919 * n + 1).natAbs < 2 ^ 64 := by omega
    rw [decide_eq_true this]
    rfl
  have c3 : decide (0 < L) = true := decide_eq_true hL
  simp only [gRet, bin, slot, con, pMod, pFdiv, pPow, pAdd, pMul, pIx, lsOf, M.bind, List.getElem?_cons_succ, List.getElem?_cons_zero, svI, deckMu, orFail, c1, c2, c3, atI_1, if_true, Option.map, decide_true, Bool.and_self, ite_true, Int.reduceLT, iteM, ret_at]
  rfl
theorem drawA_run {k : Dk} {L : Int} (R : Mu) (hL : 0 < L) (hL2 : L < 1073741824) (hk : dGood k) (hn : k.n < 10 ^ 12) (x y : Option Sv) :
    Gdraw [some (.ref 1), some (svI L), x, y] (dkO k ++ R) = some (.ok (.rt (svI (drawA k L).1)) (dkO (drawA k L).2 ++ R)) := by
  obtain ⟨cs, n, ce⟩ := k
  obtain ⟨h0, hp, hlen, hce⟩ := hk
  replace hce : ce = none := hce
  subst hce
  replace h0 : 0 ≤ n := h0
  replace hn : n < 10 ^ 12 := hn
  replace hp : ∀ c ∈ cs, 0 ≤ c := hp
  have c3 : decide (0 < L) = true := decide_eq_true hL
  have c4 : decide (L < 1073741824) = true := decide_eq_true hL2
  show Gdraw _ (deckMu cs n R) = _
  unfold Gdraw
  have hd0 : ((gAsg (bin (pAdd false) (bin pIx (slot 0) (con (.int 1))) (con (.int 1))) (gSt (slot 0) (con (.int 1))))) [some (.ref 1), some (svI L), x, y] (deckMu cs n R) = some (.ok (.nx [some (.ref 1), some (svI L), x, y]) (deckMu cs (n + 1) R)) := rfl
  rw [seq_at hd0]
  have tst0 : ∀ l s t, (tst (bin pGt (callV bLen (argC (bin pIx (slot 0) (con (.int 0))) argN)) (con (.int 0)))) [some (.ref 1), l, s, t] (deckMu cs (n + 1) R) = some (.ok (decide (0 < (cs.length : Int))) (deckMu cs (n + 1) R)) := fun l s t => by
    simp only [tst, bin, callV, argC, argN, bLen, pGt, pCmp, slot, con, pIx, lsOf, M.bind, List.getElem?_cons_succ, List.getElem?_cons_zero, svI, deckMu, orFail, atI_0, Option.map, ret_at, List.length_map, asB]
  have pair : ∀ l s t, ((gAsg (tupV (argC (con (.int 0)) (argC (negV (con (.int 1))) argN))) (gTp 2 (gsCons (gNm 2) (gsCons (gNm 3) gsNil))))) [some (.ref 1), l, s, t] (deckMu cs (n + 1) R) = some (.ok (.nx [some (.ref 1), l, some (svI 0), some (svI (-1))]) (deckMu cs (n + 1) R)) := fun _ _ _ => rfl
  have ge18 : ∀ l t c, (tst (bin pGe (slot 2) (bin pPow (con (.int 10)) (con (.int 18))))) [some (.ref 1), l, some (svI c), t] (deckMu cs (n + 1) R) = some (.ok (decide (10 ^ 18 ≤ c)) (deckMu cs (n + 1) R)) := fun l t c => rfl
  rw [seq_at (pair _ _ _)]
  by_cases he : cs = []
  · subst he
    have t0 := tst0 (some (svI L)) (some (svI 0)) (some (svI (-1)))
    rw [seq_at (ρ' := [some (.ref 1), some (svI L), some (svI 0), some (svI (-1))]) (μ' := deckMu [] (n + 1) R) (by rw [if_f t0]; rfl)]
    rw [seq_at (ρ' := [some (.ref 1), some (svI L), some (svI 0), some (svI (-1))]) (μ' := deckMu [] (n + 1) R) (by rw [if_f (ge18 _ _ _)]; rfl)]
    rw [tailA_run (cell := 0) (svI (-1)) (by decide) (by omega) (by omega) hL]
    rfl
  · have hpos : 0 < cs.length := List.length_pos_iff.mpr he
    have cpos : decide (0 < (cs.length : Int)) = true := decide_eq_true (by omega)
    have i0 : 0 ≤ (n + 1) % (cs.length : Int) := Int.emod_nonneg _ (by omega)
    have i1 : (n + 1) % (cs.length : Int) < cs.length := Int.emod_lt_of_pos _ (by omega)
    obtain ⟨cell, g1, g2⟩ := atI_lt (xs := cs) i0 i1
    have hcell : 0 ≤ cell := hp _ (List.mem_of_getElem? g1)
    have g3 : atI (cs.map svI) ((n + 1) % (cs.length : Int)) = some (svI cell) := atI_map g2
    have t0 := tst0 (some (svI L)) (some (svI 0)) (some (svI (-1)))
    rw [cpos] at t0
    rw [seq_at (ρ' := [some (.ref 1), some (svI L), some (svI cell), some (svI ((n + 1) % (cs.length : Int)))]) (μ' := deckMu cs (n + 1) R) (by
      rw [if_t t0]
      simp only [gSeq, gSet, bin, callV, argC, argN, bLen, pMod, slot, con, pIx, lsOf, M.bind, List.getElem?_cons_succ, List.getElem?_cons_zero, svI, deckMu, orFail, atI_0, atI_1, Option.map, ret_at, List.length_map, iteM, cpos, ite_true, List.set_cons_succ, List.set_cons_zero]
      rw [show List.map (fun i => Sv.dat (PyData.int i)) cs = cs.map svI from rfl, g3])]
    have hd : drawA ⟨cs, n, none⟩ L = if 10 ^ 18 ≤ cell then (cell % L, ⟨cs.set ((n + 1) % (cs.length : Int)).toNat (cell / L), n + 1, none⟩) else (tailA cell (n + 1) L, ⟨cs, n + 1, none⟩) := by
      unfold drawA
      dsimp only
      rw [g1]
    by_cases hb : 10 ^ 18 ≤ cell
    · have gg := ge18 (some (svI L)) (some (svI ((n + 1) % (cs.length : Int)))) cell
      rw [decide_eq_true hb] at gg
      rw [hd, if_pos hb]
      refine seq_rt ?_
      rw [if_t gg]
      have e1 : ((gAsg (bin pFdiv (slot 2) (slot 1)) (gSt (bin pIx (slot 0) (con (.int 0))) (slot 3)))) [some (.ref 1), some (svI L), some (svI cell), some (svI ((n + 1) % (cs.length : Int)))] (deckMu cs (n + 1) R) =
          some (.ok (.nx [some (.ref 1), some (svI L), some (svI cell), some (svI ((n + 1) % (cs.length : Int)))]) (deckMu (cs.set ((n + 1) % (cs.length : Int)).toNat (cell / L)) (n + 1) R)) := by
        have hix : ixN (cs.map svI).length ((n + 1) % (cs.length : Int)) = some ((n + 1) % (cs.length : Int)).toNat := by
          rw [List.length_map]
          exact ixN_lt i0 i1
        simp only [gAsg, gSt, bin, pFdiv, slot, con, pIx, lsOf, M.bind, List.getElem?_cons_succ, List.getElem?_cons_zero, svI, deckMu, orFail, atI_0, Option.map, ret_at, iteM, c3, c4, Bool.and_self, ite_true, asI, tagOf, wrt]
        rw [show List.map (fun i => Sv.dat (PyData.int i)) cs = cs.map svI from rfl, hix]
        simp only [List.set_cons_zero, List.map_set]
      rw [seq_at e1]
      simp only [gRet, bin, pMod, slot, M.bind, List.getElem?_cons_succ, List.getElem?_cons_zero, svI, ret_at, iteM, c3, ite_true]
      rfl
    · have gg := ge18 (some (svI L)) (some (svI ((n + 1) % (cs.length : Int)))) cell
      rw [decide_eq_false hb] at gg
      rw [hd, if_neg hb]
      rw [seq_at (ρ' := [some (.ref 1), some (svI L), some (svI cell), some (svI ((n + 1) % (cs.length : Int)))]) (μ' := deckMu cs (n + 1) R) (by rw [if_f gg]; rfl)]
      exact tailA_run (cell := cell) (svI ((n + 1) % (cs.length : Int))) hcell (by omega) (by omega) hL
theorem tt_drawA (a1 : PyData) : Jd [some .dk, some (.im a1), none, none] Gdraw (TdrawA a1) pR := fun k rest ρ μ e r k' q => by
  obtain ⟨g, hg⟩ := e.pre
  have hl : ρ.length = 4 := e.len
  obtain ⟨s0, h0, z0⟩ := e.at_ 0 _ rfl
  obtain ⟨s1, h1, z1⟩ := e.at_ 1 _ rfl
  cases z0
  cases z1
  match ρ, hl with
  | [p0, p1, x, y], _ =>
    cases h0
    cases h1
    cases a1 with
    | int L =>
      unfold TdrawA at q
      dsimp only at q
      split at q
      · rename_i hc
        cases q
        refine ⟨_, _, ?_, rfl, g, rfl⟩
        rw [hg, List.append_assoc, drawA_run (rest ++ g) hc.1 hc.2.1 hc.2.2.1 hc.2.2.2, List.append_assoc]
      · cases q
    | _ => cases q
theorem same_drawA (ss : List Sv) (μ : Mu) (r : Res Sv) (hs : ss.length = 2) (wf : Wf μ) (e : liftD (u1 TdrawA) ss μ = some r) : ∃ r', Gdraw (ini 4 ss) μ = some r' ∧ Agree μ.length r r' :=
  same_D (n := 1) (by decide) (fun ds h => by
    obtain ⟨a, rfl⟩ := len1 h
    exact r_e (tt_drawA a)) ss μ r hs wf e
theorem tailA_ok (c n : Int) {L : Int} (hL : 0 < L) : 0 ≤ tailA c n L ∧ tailA c n L < L := ⟨Int.emod_nonneg _ (by omega), Int.emod_lt_of_pos _ hL⟩
theorem Can.drawA {L : Int} (h0 : 0 < L) (h1 : L < 1073741824) : Can 1 (TdrawA (.int L)) fun d => ∃ r : Int, d = .int r ∧ 0 ≤ r ∧ r < L := fun k g hb => by
  have hc : 0 < L ∧ L < 1073741824 ∧ dGood k ∧ k.n < 10 ^ 12 := ⟨h0, h1, g, by omega⟩
  refine ⟨_, _, show TdrawA (.int L) k = _ by unfold TdrawA; dsimp only; rw [if_pos hc], ⟨_, rfl, ?_⟩, ?_, ?_⟩
  · unfold Pf.drawA
    split
    · exact tailA_ok _ _ h0
    · split
      · exact ⟨Int.emod_nonneg _ (by omega), Int.emod_lt_of_pos _ h0⟩
      · exact tailA_ok _ _ h0
  · have g0 := g.n0
    unfold Pf.drawA
    split
    · exact ⟨by show 0 ≤ k.n + 1; omega, g.pos, g.len, g.ce⟩
    · rename_i c hcell
      have hc0 : 0 ≤ c := g.pos _ (List.mem_of_getElem? hcell)
      split
      · refine ⟨by show 0 ≤ k.n + 1; omega, fun c' hc' => ?_, by show (k.cs.set _ _).length ≤ 63; rw [List.length_set]; exact g.len, g.ce⟩
        rcases List.mem_or_eq_of_mem_set hc' with z | z
        · exact g.pos _ z
        · rw [z]
          exact Int.ediv_nonneg hc0 (by omega)
      · exact ⟨by show 0 ≤ k.n + 1; omega, g.pos, g.len, g.ce⟩
  · have : (Pf.drawA k L).2.n = k.n + 1 := by
      unfold Pf.drawA
      split
      · rfl
      · split <;> rfl
    rw [this]
    omega
end Pf

set_option maxHeartbeats 1000000
namespace Pf
open PySem PySem.Spec PyProof.Rows L2
noncomputable abbrev T__law_draw := TdrawA
noncomputable abbrev F__law_draw := liftD (u1 TdrawA)
noncomputable def T__law_same (a0 a1 : PyData) : S PyData :=
  (((S.ret a0).bind fun x1 => S.lift (oRepr x1)).bind fun x3 => ((S.ret a1).bind fun x2 => S.lift (oRepr x2)).bind fun x4 => S.lift (asB2 (cEq x3 x4)))
noncomputable abbrev F__law_same : List Sv → M Sv := liftF (u2 T__law_same)
noncomputable def G__law_same : Rho → M Out :=
  (gRet (bin pEq (callV bRepr (argC (slot 0) argN)) (callV bRepr (argC (slot 1) argN))))
theorem tt__law_same (a0 a1 : PyData) : Jd [some (.im a0), some (.im a1)] G__law_same (T__law_same a0 a1) pR := by
  unfold T__law_same G__law_same
  exact (r_ret (e_binB op_eqn' (e_bl1 bl_repr (e_w (e_slot 0 rfl))) (e_w (e_bl1 bl_repr (e_w (e_slot 1 rfl))))))
theorem same__law_same (ss : List Sv) (μ : Mu) (r : Res Sv) (hs : ss.length = 2) (wf : Wf μ) (e : F__law_same ss μ = some r) : ∃ r', G__law_same (ini 2 ss) μ = some r' ∧ Agree μ.length r r' :=
  same_T (n := 2) (fun ds h => by
    obtain ⟨a0, a1, rfl⟩ := len2 h
    exact r_e (tt__law_same a0 a1)) ss μ r hs wf e
noncomputable def T__law_tree (a1 : PyData) : S PyData :=
  ((((((S.ret (PyData.int 1)).bind fun x3 => (((S.ret a1).bind fun x1 => (S.ret []).bind fun as2 => S.ret (x1 :: as2)).bind (u1 T__law_draw)).bind fun x4 => S.lift (oAdd x3 x4)).bind fun x7 => ((S.ret a1).bind fun x5 => (S.ret []).bind fun as6 => S.ret (x5 :: as6)).bind fun as8 => S.ret (x7 :: as8)).bind fun as9 => S.ret (PyData.list as9)).bind fun x12 => (((S.ret (PyData.int 2)).bind fun x10 => (S.ret []).bind fun as11 => S.ret (x10 :: as11)).bind (u1 T__law_draw)).bind fun x13 => S.lift (oIx x12 x13)).bind fun v14 =>
  (((((S.ret (PyData.int 4)).bind fun x15 => (S.ret []).bind fun as16 => S.ret (x15 :: as16)).bind (u1 T__law_draw)).bind fun x33 => ((((S.ret (PyData.int 1)).bind fun x25 => ((S.ret (PyData.int 3)).bind fun x23 => ((S.ret (PyData.int 9)).bind fun x21 => (((S.ret (PyData.int 10)).bind fun x17 => (S.ret (PyData.int 6)).bind fun x18 => S.lift (oPow x17 x18)).bind fun x19 => (S.ret []).bind fun as20 => S.ret (x19 :: as20)).bind fun as22 => S.ret (x21 :: as22)).bind fun as24 => S.ret (x23 :: as24)).bind fun as26 => S.ret (x25 :: as26)).bind fun as27 => S.ret (PyData.list as27)).bind fun x30 => (((S.ret (PyData.int 4)).bind fun x28 => (S.ret []).bind fun as29 => S.ret (x28 :: as29)).bind (u1 T__law_draw)).bind fun x31 => S.lift (oIx x30 x31)).bind fun x34 => ((S.ret []).bind fun as32 => S.ret (PyData.tuple as32)).bind fun x35 => S.ret (x33, x34, x35)).bind fun v36 =>
  (((((S.ret v14).bind fun x37 => (S.ret (PyData.int 1)).bind fun x38 => S.lift (oSub x37 x38)).bind fun x39 => S.lift (rngD x39)).bind fun ds43 => S.foldM (fun (s40 : PyData) d41 => (S.ret d41).bind fun t42 => ((((((((S.ret t42).bind fun x44 => (S.ret (PyData.int 1)).bind fun x45 => S.lift (oAdd x44 x45)).bind fun x46 => (S.ret []).bind fun as47 => S.ret (x46 :: as47)).bind (u1 T__law_draw)).bind fun x58 => ((S.ret t42).bind fun x56 => ((S.ret (PyData.int 0)).bind fun x54 => (((S.ret (PyData.int 0)).bind fun x50 => ((S.ret t42).bind fun x48 => (S.ret (PyData.int 1)).bind fun x49 => S.lift (oSub x48 x49)).bind fun x51 => S.lift (oMax2 x50 x51)).bind fun x52 => (S.ret []).bind fun as53 => S.ret (x52 :: as53)).bind fun as55 => S.ret (x54 :: as55)).bind fun as57 => S.ret (x56 :: as57)).bind fun as59 => S.ret (x58 :: as59)).bind fun as60 => S.ret (PyData.list as60)).bind fun x61 => (S.ret v36.1).bind fun x62 => S.lift (oIx x61 x62)).bind fun v63 =>
  (((S.ret s40).bind fun x76 => (((((S.ret v63).bind fun x70 => (((S.ret (PyData.int 1)).bind fun x66 => (((S.ret v36.2.1).bind fun x64 => (S.ret []).bind fun as65 => S.ret (x64 :: as65)).bind (u1 T__law_draw)).bind fun x67 => S.lift (oAdd x66 x67)).bind fun x68 => (S.ret []).bind fun as69 => S.ret (x68 :: as69)).bind fun as71 => S.ret (x70 :: as71)).bind fun as72 => S.ret (PyData.tuple as72)).bind fun x73 => (S.ret []).bind fun as74 => S.ret (x73 :: as74)).bind fun as75 => S.ret (PyData.tuple as75)).bind fun x77 => S.lift (oAdd x76 x77)).bind fun s79 => S.ret (s79)))) ds43 (v36.2.2)).bind fun v80 =>
  (S.ret v80))))
noncomputable abbrev F__law_tree : List Sv → M Sv := liftD (u1 T__law_tree)
noncomputable def G__law_tree : Rho → M Out :=
  (gSeq (gSet 2 (bin pIx (lstV false (argC (bin (pAdd false) (con (.int 1)) (callF F__law_draw 2 (argC (slot 0) (argC (slot 1) argN)))) (argC (slot 1) argN))) (callF F__law_draw 2 (argC (slot 0) (argC (con (.int 2)) argN)))))
  (gSeq (gPar3 4 5 6 (argC (callF F__law_draw 2 (argC (slot 0) (argC (con (.int 4)) argN))) (argC (bin pIx (lstV false (argC (con (.int 1)) (argC (con (.int 3)) (argC (con (.int 9)) (argC (bin pPow (con (.int 10)) (con (.int 6))) argN))))) (callF F__law_draw 2 (argC (slot 0) (argC (con (.int 4)) argN)))) (argC (tupV argN) argN))))
  (gSeq (gFor (rngV (bin pSub (slot 2) (con (.int 1)))) (gNm 3)
  (gSeq (gSet 7 (bin pIx (lstV false (argC (callF F__law_draw 2 (argC (slot 0) (argC (bin (pAdd false) (slot 3) (con (.int 1))) argN))) (argC (slot 3) (argC (con (.int 0)) (argC (callV bMax2 (argC (con (.int 0)) (argC (bin pSub (slot 3) (con (.int 1))) argN))) argN))))) (slot 4)))
  (gSet 6 (bin (pAdd false) (slot 6) (tupV (argC (tupV (argC (slot 7) (argC (bin (pAdd false) (con (.int 1)) (callF F__law_draw 2 (argC (slot 0) (argC (slot 5) argN)))) argN))) argN))))))
  (gRet (slot 6)))))
theorem tt__law_tree (a1 : PyData) : Jd [some .dk, some (.im a1), none, none, none, none, none, none] G__law_tree (T__law_tree a1) pR := by
  unfold T__law_tree G__law_tree
  exact (r_seq (s_setI 2 (e_bin op_ix' (e_lst (a_cons' (e_bin op_add' (e_con (PyData.int 1)) (e_w (e_callD 0 rfl (a_cons' (e_slot 1 rfl) a_nil')))) (a_cons' (e_slot 1 rfl) a_nil'))) (e_w (e_callD 0 rfl (a_cons' (e_con (PyData.int 2)) a_nil'))))) fun v14 =>
  (r_seq (s_par3' 4 5 6 (e_callD 0 rfl (a_cons' (e_con (PyData.int 4)) a_nil')) (e_bin op_ix' (e_lst (a_cons' (e_con (PyData.int 1)) (a_cons' (e_con (PyData.int 3)) (a_cons' (e_con (PyData.int 9)) (a_cons' (e_bin op_pow' (e_con (PyData.int 10)) (e_w (e_con (PyData.int 6)))) a_nil'))))) (e_w (e_callD 0 rfl (a_cons' (e_con (PyData.int 4)) a_nil')))) (e_tup a_nil')) fun v36 =>
  (r_seq (s_for' (h := fun (s : PyData) => [some .dk, some (.im a1), some (.im v14), none, some (.im v36.1), some (.im v36.2.1), some (.im s), none]) (v36.2.2) (w_rng (e_bin op_sub' (e_slot 2 rfl) (e_w (e_con (PyData.int 1))))) (.keep (.keep (.keep (.drop (.keep (.keep (.keep (.drop .nil)))))))) (fun s40 d41 => b_tg (u := fun d41 => (S.ret d41)) (e' := fun (t : PyData) => [some .dk, some (.im a1), some (.im v14), some (.im t), some (.im v36.1), some (.im v36.2.1), some (.im s40), none]) d41 (tg_nm 3 d41) fun t42 => ((r_seq (s_setI 7 (e_bin op_ix' (e_lst (a_cons' (e_callD 0 rfl (a_cons' (e_bin op_add' (e_slot 3 rfl) (e_w (e_con (PyData.int 1)))) a_nil')) (a_cons' (e_slot 3 rfl) (a_cons' (e_con (PyData.int 0)) (a_cons' (e_bl2 bl_max2 (e_con (PyData.int 0)) (e_bin op_sub' (e_slot 3 rfl) (e_w (e_con (PyData.int 1))))) a_nil'))))) (e_w (e_slot 4 rfl)))) fun v63 =>
  ((n_end (fun (s79 : PyData) => (s79)) (s_setI 6 (e_bin op_add' (e_slot 6 rfl) (e_w (e_tup (a_cons' (e_tup (a_cons' (e_slot 7 rfl) (a_cons' (e_bin op_add' (e_con (PyData.int 1)) (e_w (e_callD 0 rfl (a_cons' (e_slot 5 rfl) a_nil')))) a_nil'))) a_nil'))))) fun s79 => (.keep (.keep (.keep (.drop (.keep (.keep (.keep (.drop .nil)))))))))))))) fun v80 =>
  (r_ret (e_slot 6 rfl)))))
theorem same__law_tree (ss : List Sv) (μ : Mu) (r : Res Sv) (hs : ss.length = 2) (wf : Wf μ) (e : F__law_tree ss μ = some r) : ∃ r', G__law_tree (ini 8 ss) μ = some r' ∧ Agree μ.length r r' :=
  same_D (n := 1) (by decide) (fun ds h => by
    obtain ⟨a1, rfl⟩ := len1 h
    exact r_e (tt__law_tree a1)) ss μ r hs wf e
noncomputable def T__law_far (a0 : PyData) : S PyData :=
  ((((((S.ret (PyData.int 0)).bind fun x1 => (S.ret []).bind fun as2 => S.ret (x1 :: as2)).bind fun as3 => S.ret (PyData.list as3)).bind fun x4 => (S.ret []).bind fun as5 => S.ret (x4 :: as5)).bind fun as6 => S.ret (PyData.list as6)).bind fun v7 =>
  (((((S.ret a0).bind fun x8 => S.lift (oLen x8)).bind fun x9 => S.lift (rngD x9)).bind fun ds13 => S.foldM (fun (s10 : PyData) d11 => (S.ret d11).bind fun t12 => ((((S.ret a0).bind fun x14 => (S.ret t12).bind fun x15 => S.lift (oIx x14 x15)).bind fun d16 => ((S.lift (un2 d16)).bind fun p17 => (S.ret p17.1).bind fun s18 => (S.ret p17.2).bind fun s20 => S.ret (s18, s20))).bind fun v22 =>
  (((((S.ret t12).bind fun x23 => (S.ret (PyData.int 1)).bind fun x24 => S.lift (oAdd x23 x24)).bind fun x25 => S.lift (rngD x25)).bind fun ds28 => (S.lift (szD ds28)).bind fun _ => (S.mapM (fun d26 => S.noEx ((S.ret d26).bind fun s27 => ((((S.ret s10).bind fun x30 => (S.ret v22.1).bind fun x31 => S.lift (oIx x30 x31)).bind fun x32 => (S.ret s27).bind fun x33 => S.lift (oIx x32 x33)).bind fun x34 => (S.ret v22.2).bind fun x35 => S.lift (oAdd x34 x35)))) ds28).bind fun xs29 => S.ret (PyData.list xs29)).bind fun v36 =>
  ((((((S.ret t12).bind fun x37 => (S.ret (PyData.int 1)).bind fun x38 => S.lift (oAdd x37 x38)).bind fun x39 => S.lift (rngD x39)).bind fun ds42 => (S.lift (szD ds42)).bind fun _ => (S.mapM (fun d40 => S.noEx ((S.ret d40).bind fun s41 => (((S.ret s10).bind fun x44 => (S.ret s41).bind fun x45 => S.lift (oIx x44 x45)).bind fun x51 => ((((S.ret v36).bind fun x46 => (S.ret s41).bind fun x47 => S.lift (oIx x46 x47)).bind fun x48 => (S.ret []).bind fun as49 => S.ret (x48 :: as49)).bind fun as50 => S.ret (PyData.list as50)).bind fun x52 => S.lift (oAdd x51 x52)))) ds42).bind fun xs43 => S.ret (PyData.list xs43)).bind fun x61 => ((((S.ret v36).bind fun x56 => (((S.ret (PyData.int 0)).bind fun x53 => (S.ret []).bind fun as54 => S.ret (x53 :: as54)).bind fun as55 => S.ret (PyData.list as55)).bind fun x57 => S.lift (oAdd x56 x57)).bind fun x58 => (S.ret []).bind fun as59 => S.ret (x58 :: as59)).bind fun as60 => S.ret (PyData.list as60)).bind fun x62 => S.lift (oAdd x61 x62)).bind fun s64 => S.ret (s64))))) ds13 (v7)).bind fun v65 =>
  (S.ret v65)))
noncomputable abbrev F__law_far : List Sv → M Sv := liftF (u1 T__law_far)
noncomputable def G__law_far : Rho → M Out :=
  (gSeq (gSet 1 (lstV false (argC (lstV false (argC (con (.int 0)) argN)) argN)))
  (gSeq (gFor (rngV (callV bLen (argC (slot 0) argN))) (gNm 2)
  (gSeq (gAsg (bin pIx (slot 0) (slot 2)) (gTp 2 (gsCons (gNm 4) (gsCons (gNm 5) gsNil))))
  (gSeq (gSet 3 (lcV false [6] (rngV (bin (pAdd false) (slot 2) (con (.int 1)))) (gNm 6) yes (bin (pAdd false) (bin pIx (bin pIx (slot 1) (slot 4)) (slot 6)) (slot 5))))
  (gSet 1 (bin (pAdd false) (lcV false [6] (rngV (bin (pAdd false) (slot 2) (con (.int 1)))) (gNm 6) yes (bin (pAdd false) (bin pIx (slot 1) (slot 6)) (lstV false (argC (bin pIx (slot 3) (slot 6)) argN)))) (lstV false (argC (bin (pAdd false) (slot 3) (lstV false (argC (con (.int 0)) argN))) argN)))))))
  (gRet (slot 1))))
theorem tt__law_far (a0 : PyData) : Jd [some (.im a0), none, none, none, none, none, none] G__law_far (T__law_far a0) pR := by
  unfold T__law_far G__law_far
  exact (r_seq (s_setI 1 (e_lst (a_cons' (e_lst (a_cons' (e_con (PyData.int 0)) a_nil')) a_nil'))) fun v7 =>
  (r_seq (s_for' (h := fun (s : PyData) => [some (.im a0), some (.im s), none, none, none, none, none]) (v7) (w_rng (e_bl1 bl_len (e_w (e_slot 0 rfl)))) (.keep (.keep (.drop (.drop (.drop (.drop (.drop .nil))))))) (fun s10 d11 => b_tg (u := fun d11 => (S.ret d11)) (e' := fun (t : PyData) => [some (.im a0), some (.im s10), some (.im t), none, none, none, none]) d11 (tg_nm 2 d11) fun t12 => ((r_seq (s_asg' (u := fun d16 => ((S.lift (un2 d16)).bind fun p17 => (S.ret p17.1).bind fun s18 => (S.ret p17.2).bind fun s20 => S.ret (s18, s20))) (e' := fun (s : ((PyData) × (PyData))) => [some (.im a0), some (.im s10), some (.im t12), none, some (.im s.1), some (.im s.2), none]) (e_bin op_ix' (e_slot 0 rfl) (e_w (e_slot 2 rfl))) fun d16 => (tg_tp2 (e1 := fun (s18 : PyData) => [some (.im a0), some (.im s10), some (.im t12), none, some (.im s18), none, none]) (e2 := fun (s18 : PyData) (s20 : PyData) => [some (.im a0), some (.im s10), some (.im t12), none, some (.im s18), some (.im s20), none]) (u1 := fun d19 => (S.ret d19)) (u2 := fun d21 => (S.ret d21)) d16 (fun d19 => (tg_nm 4 d19)) (fun s18 d21 => (tg_nm 5 d21)))) fun v22 =>
  ((r_seq (s_setI 3 (e_lc (u := fun d26 => (S.ret d26)) (e' := fun (s : PyData) => [some (.im a0), some (.im s10), some (.im t12), none, some (.im v22.1), some (.im v22.2), some (.im s)]) [6] (w_rng (e_bin op_add' (e_slot 2 rfl) (e_w (e_con (PyData.int 1))))) rfl (fun d26 => (tc_nm 6 d26 rfl)) (fun s27 => (e_bin op_add' (e_bin op_ix' (e_bin op_ix' (e_slot 1 rfl) (e_w (e_slot 4 rfl))) (e_w (e_slot 6 rfl))) (e_w (e_slot 5 rfl)))))) fun v36 =>
  ((n_end (fun (s64 : PyData) => (s64)) (s_setI 1 (e_bin op_add' (e_lc (u := fun d40 => (S.ret d40)) (e' := fun (s : PyData) => [some (.im a0), some (.im s10), some (.im t12), some (.im v36), some (.im v22.1), some (.im v22.2), some (.im s)]) [6] (w_rng (e_bin op_add' (e_slot 2 rfl) (e_w (e_con (PyData.int 1))))) rfl (fun d40 => (tc_nm 6 d40 rfl)) (fun s41 => (e_bin op_add' (e_bin op_ix' (e_slot 1 rfl) (e_w (e_slot 6 rfl))) (e_w (e_lst (a_cons' (e_bin op_ix' (e_slot 3 rfl) (e_w (e_slot 6 rfl))) a_nil')))))) (e_w (e_lst (a_cons' (e_bin op_add' (e_slot 3 rfl) (e_w (e_lst (a_cons' (e_con (PyData.int 0)) a_nil')))) a_nil'))))) fun s64 => (.keep (.keep (.drop (.drop (.drop (.drop (.drop .nil))))))))))))))) fun v65 =>
  (r_ret (e_slot 1 rfl))))
theorem same__law_far (ss : List Sv) (μ : Mu) (r : Res Sv) (hs : ss.length = 1) (wf : Wf μ) (e : F__law_far ss μ = some r) : ∃ r', G__law_far (ini 7 ss) μ = some r' ∧ Agree μ.length r r' :=
  same_T (n := 1) (fun ds h => by
    obtain ⟨a0, rfl⟩ := len1 h
    exact r_e (tt__law_far a0)) ss μ r hs wf e
noncomputable def T__law_falls (a0 a1 : PyData) : S PyData :=
  ((S.ret []).bind fun v1 =>
  (((((S.ret a0).bind fun x2 => S.lift (oLen x2)).bind fun x3 => S.lift (rngD x3)).bind fun ds7 => S.foldM (fun (s4 : List PyData) d5 => (S.ret d5).bind fun t6 => ((((((S.ret a1).bind fun x8 => S.lift (seqD x8)).bind fun ds11 => (S.lift (szD ds11)).bind fun _ => (S.mapM (fun d9 => S.noEx ((S.ret d9).bind fun s10 => (((S.ret s10).bind fun x13 => (S.ret (PyData.int 1)).bind fun x14 => S.lift (oIx x13 x14)).bind fun x21 => (((S.ret a0).bind fun x17 => ((S.ret s10).bind fun x15 => (S.ret (PyData.int 0)).bind fun x16 => S.lift (oIx x15 x16)).bind fun x18 => S.lift (oIx x17 x18)).bind fun x19 => (S.ret t6).bind fun x20 => S.lift (oIx x19 x20)).bind fun x22 => S.lift (oAdd x21 x22)))) ds11).bind fun xs12 => S.ret (PyData.list xs12)).bind fun x23 => S.lift (oBest min x23)).bind fun x24 => S.lift (appD s4 x24)).bind fun s26 => S.ret (s26))) ds7 (v1)).bind fun v27 =>
  ((S.ret (PyData.list v27)).bind fun x28 => S.lift (oTuple x28))))
noncomputable abbrev F__law_falls : List Sv → M Sv := liftF (u2 T__law_falls)
noncomputable def G__law_falls : Rho → M Out :=
  (gSeq (gSet 2 (lstV true argN))
  (gSeq (gFor (rngV (callV bLen (argC (slot 0) argN))) (gNm 3)
  (gExpr (appV (slot 2) (callV bMinA (argC (lcV false [4] (seqV (slot 1)) (gNm 4) yes (bin (pAdd false) (bin pIx (slot 4) (con (.int 1))) (bin pIx (bin pIx (slot 0) (bin pIx (slot 4) (con (.int 0)))) (slot 3)))) argN)))))
  (gRet (callV bTuple (argC (slot 2) argN)))))
theorem tt__law_falls (a0 a1 : PyData) : Jd [some (.im a0), some (.im a1), none, none, none] G__law_falls (T__law_falls a0 a1) pR := by
  unfold T__law_falls G__law_falls
  exact (r_seq (s_setM 2 (m_lst a_nil')) fun v1 =>
  (r_seq (s_for' (h := fun (s : List PyData) => [some (.im a0), some (.im a1), some (.mt s), none, none]) (v1) (w_rng (e_bl1 bl_len (e_w (e_slot 0 rfl)))) (.keep (.keep (.keep (.drop (.drop .nil))))) (fun s4 d5 => b_tg (u := fun d5 => (S.ret d5)) (e' := fun (t : PyData) => [some (.im a0), some (.im a1), some (.mt s4), some (.im t), none]) d5 (tg_nm 3 d5) fun t6 => ((n_end (fun (s26 : List PyData) => (s26)) (s_app 2 rfl (e_bl1 bl_best (e_w (e_lc (u := fun d9 => (S.ret d9)) (e' := fun (s : PyData) => [some (.im a0), some (.im a1), some (.mt s4), some (.im t6), some (.im s)]) [4] (w_seq (e_slot 1 rfl)) rfl (fun d9 => (tc_nm 4 d9 rfl)) (fun s10 => (e_bin op_add' (e_bin op_ix' (e_slot 4 rfl) (e_w (e_con (PyData.int 1)))) (e_w (e_bin op_ix' (e_bin op_ix' (e_slot 0 rfl) (e_w (e_bin op_ix' (e_slot 4 rfl) (e_w (e_con (PyData.int 0)))))) (e_w (e_slot 3 rfl))))))))) rfl) fun s26 => (.keep (.keep (.keep (.drop (.drop .nil))))))))) fun v27 =>
  (r_ret (e_bl1 bl_tuple (e_slotW 2 rfl)))))
theorem same__law_falls (ss : List Sv) (μ : Mu) (r : Res Sv) (hs : ss.length = 2) (wf : Wf μ) (e : F__law_falls ss μ = some r) : ∃ r', G__law_falls (ini 5 ss) μ = some r' ∧ Agree μ.length r r' :=
  same_T (n := 2) (fun ds h => by
    obtain ⟨a0, a1, rfl⟩ := len2 h
    exact r_e (tt__law_falls a0 a1)) ss μ r hs wf e
end Pf

set_option maxHeartbeats 1000000
namespace Pf
open PySem PySem.Spec PyProof.Rows L2
noncomputable def T__law_pushes (a1 a2 a3 : PyData) : S PyData :=
  ((S.ret []).bind fun v1 =>
  (((((S.ret (PyData.int 1)).bind fun x4 => (((S.ret a2).bind fun x2 => (S.ret []).bind fun as3 => S.ret (x2 :: as3)).bind (u1 T__law_draw)).bind fun x5 => S.lift (oAdd x4 x5)).bind fun x6 => S.lift (rngD x6)).bind fun ds10 => S.foldM (fun (s7 : List PyData) d8 => (S.ret d8).bind fun t9 => (((((((((S.ret a1).bind fun x11 => S.lift (oLen x11)).bind fun x12 => (S.ret (PyData.int 1)).bind fun x13 => S.lift (oAdd x12 x13)).bind fun x14 => (S.ret []).bind fun as15 => S.ret (x14 :: as15)).bind (u1 T__law_draw)).bind fun x20 => ((((S.ret a3).bind fun x16 => (S.ret []).bind fun as17 => S.ret (x16 :: as17)).bind (u1 T__law_draw)).bind fun x18 => (S.ret []).bind fun as19 => S.ret (x18 :: as19)).bind fun as21 => S.ret (x20 :: as21)).bind fun as22 => S.ret (PyData.tuple as22)).bind fun x23 => S.lift (appD s7 x23)).bind fun s25 => S.ret (s25))) ds10 (v1)).bind fun v26 =>
  ((S.ret (PyData.list v26)).bind fun x27 => S.lift (oTuple x27))))
noncomputable abbrev F__law_pushes : List Sv → M Sv := liftD (u3 T__law_pushes)
noncomputable def G__law_pushes : Rho → M Out :=
  (gSeq (gSet 4 (lstV true argN))
  (gSeq (gFor (rngV (bin (pAdd false) (con (.int 1)) (callF F__law_draw 2 (argC (slot 0) (argC (slot 2) argN))))) (gNm 5)
  (gExpr (appV (slot 4) (tupV (argC (callF F__law_draw 2 (argC (slot 0) (argC (bin (pAdd false) (callV bLen (argC (slot 1) argN)) (con (.int 1))) argN))) (argC (callF F__law_draw 2 (argC (slot 0) (argC (slot 3) argN))) argN))))))
  (gRet (callV bTuple (argC (slot 4) argN)))))
theorem tt__law_pushes (a1 a2 a3 : PyData) : Jd [some .dk, some (.im a1), some (.im a2), some (.im a3), none, none] G__law_pushes (T__law_pushes a1 a2 a3) pR := by
  unfold T__law_pushes G__law_pushes
  exact (r_seq (s_setM 4 (m_lst a_nil')) fun v1 =>
  (r_seq (s_for' (h := fun (s : List PyData) => [some .dk, some (.im a1), some (.im a2), some (.im a3), some (.mt s), none]) (v1) (w_rng (e_bin op_add' (e_con (PyData.int 1)) (e_w (e_callD 0 rfl (a_cons' (e_slot 2 rfl) a_nil'))))) (.keep (.keep (.keep (.keep (.keep (.drop .nil)))))) (fun s7 d8 => b_tg (u := fun d8 => (S.ret d8)) (e' := fun (t : PyData) => [some .dk, some (.im a1), some (.im a2), some (.im a3), some (.mt s7), some (.im t)]) d8 (tg_nm 5 d8) fun t9 => ((n_end (fun (s25 : List PyData) => (s25)) (s_app 4 rfl (e_tup (a_cons' (e_callD 0 rfl (a_cons' (e_bin op_add' (e_bl1 bl_len (e_w (e_slot 1 rfl))) (e_w (e_con (PyData.int 1)))) a_nil')) (a_cons' (e_callD 0 rfl (a_cons' (e_slot 3 rfl) a_nil')) a_nil'))) rfl) fun s25 => (.keep (.keep (.keep (.keep (.keep (.drop .nil)))))))))) fun v26 =>
  (r_ret (e_bl1 bl_tuple (e_slotW 4 rfl)))))
theorem same__law_pushes (ss : List Sv) (μ : Mu) (r : Res Sv) (hs : ss.length = 4) (wf : Wf μ) (e : F__law_pushes ss μ = some r) : ∃ r', G__law_pushes (ini 6 ss) μ = some r' ∧ Agree μ.length r r' :=
  same_D (n := 3) (by decide) (fun ds h => by
    obtain ⟨a1, a2, a3, rfl⟩ := len3 h
    exact r_e (tt__law_pushes a1 a2 a3)) ss μ r hs wf e
end Pf

namespace Pf
open PySem PySem.Spec PyProof.Rows L2
namespace Err_NoTable
/-! ### an error of the program's own, with one field -/
section
open PySem.W PySem.Calls PySem.HandSPX
def tlArgs (a b : Pos) : Arguments := { vararg := none, kwarg := none, posonlyargs := [], kwonlyargs := [], kw_defaults := [], defaults := [], args := [{ arg := "self", annotation := none, pos := a }, { arg := "pair", annotation := none, pos := b }] }
def tlBody (a b c d : Pos) : List Stmt := [.Assign [.Attribute (.Name "self" a) "pair" b] (.Name "pair" c) d]
def tlScope : Scope := { isGenerator := false, isCoroutine := false, more := [], kind := .function, names := [(PySem.Str.ofString "self", .local), (PySem.Str.ofString "pair", .local)] }
/-- what stands of the class, at C, its __init__ at f -/
structure TL (K : Frag) (mg : Str → Option Value) (C f : Addr) : Prop where
  nC : nsIn K mainGlobals "NoTable" = some (some (.ref C))
  gC : mg "NoTable" = some (.ref C)
  ob : ∃ nm q N bs bm sn sub ab col dd m0 m1 m2 m3 m5, K.lookup C = some (excClassObj nm q C N bs bm true sn sub ab col dd m0 m1 m2 m3 m5 "ValueError.__new__") ∧ refsVE bm = true
  f_set : findIn K (.ref C) "__setattr__" = some (some (.builtin "object.__setattr__"))
  f_get : findIn K (.ref C) "__getattribute__" = some (some (.builtin "BaseException.__getattribute__"))
  f_at : findIn K (.ref C) "__getattr__" = some none
  f_fld : findIn K (.ref C) "pair" = some none
  f_ini : findIn K (.ref C) "__init__" = some (some (.ref f))
  f_cls : findIn K (.ref C) "__class__" = some (some (.builtin "object.__class__"))
  s_get : specialIn K (.builtin "object.__class__") "__get__" = some (some (.builtin "getset_descriptor.__get__"))
  tk : takesIn K (.builtin "object.__class__") = some true
  mro : mroIn K C (.type "object") = some true
  tyF : typeIn K (.ref f) = some (.type "function")
  kp : keepIn K (.ref C) = true
  sub : subIn K (.ref C) (.type "BaseException") = some true
  tyC : typeIn K (.ref C) = some (.type "type")
  dct : hasDictIn K C = true
  fn : ∃ (oc : Value) (od : Option Addr) (kV doc pm : Value) (an : Option Addr) (cdv ct : Value) (osl : Array (Option Value)) (p1 p2 q1 q2 q3 q4 : Pos),
    K.lookup f = some ⟨oc, od, .func (fnOf "__init__" "NoTable.__init__" (tlArgs p1 p2) (tlBody q1 q2 q3 q4) tlScope .none kV doc pm an cdv ct), osl⟩ ∧ codeIn K cdv "NoTable.__init__" = true
theorem sz_one (v : Value) : [v].length ≤ sizeLine := by
  rw [sizeLine_eq]
  show 1 ≤ 16777216
  decide
theorem ld_param {M : Model} {s : Shared} {nm : Str} {sc : Scope} {L a : Addr} {cdv : Value} {m : Str → Option Value} {y : Str} {pos : Pos} {v : Value} {Q : Value → Shared → Prop} {A : Around} {E : Value → Shared → Prop} (hn : s.heap.Ns L m) (hv : m y = some v) (h : Q v s)
    (hk : sc.kind = .function := by rfl) (hl : (envOfC nm sc L a cdv).kindOf y = some .local := by rfl) (hd : (y == ("__debug__" : Str)) = false := by decide) : wpAny M A (eval (.Name y pos) (envOfC nm sc L a cdv)) Q E s := by
  refine wpAny_Name (wpAny_loadName_local hk hl hn hv h) hd
/-- behind __init__ -/
structure TlEnd (h h' : Heap) (x C dx t1 : Addr) (v : Value) : Prop where
  rest : ∀ b o, b ≠ x → h.get? b = some o → h'.get? b = some o
  self : h'.get? x = some { cls := .ref C, data := .fields #[.ref t1, .none, .none, .none, .bool false, .none], dict := some dx }
  late : h.objs.size ≤ dx
  apart : dx ≠ x
  fld : h'.Ns1 dx (fun y => if y = "pair" then some v else none)
/-- behind the making -/
structure TlMade (h h' : Heap) (e C d : Addr) (v : Value) : Prop where
  rest : ∀ b o, h.get? b = some o → h'.get? b = some o
  new : h.objs.size ≤ e
  self : ∃ oe vs, h'.get? e = some oe ∧ oe.cls = .ref C ∧ oe.dict = some d ∧ oe.data = .fields vs ∧ vs[1]? = some .none
  late : h.objs.size ≤ d
  apart : d ≠ e
  fld : h'.Ns1 d (fun y => if y = "pair" then some v else none)
variable {prog : Program} {w : World} {A : Around} {E : Value → Shared → Prop} {R : Result → Shared → Prop} {s : Shared} {K : Frag} {mg : Str → Option Value} {C f : Addr}
theorem tl_init (T : TL K mg C f) {x t0 : Addr} {v : Value} (X : K.In s.heap) (lim : s.heap.NoLimit) (hx : s.heap.get? x = some (excO C t0)) (room : A.depth < recursionLimit)
    (fin : ∀ h' tk dx, TlEnd s.heap h' x C dx t0 v → R (.ok (.ret .none)) { s with heap := h', toks := tk }) : codeAny (model prog w) A (.call (.ref f) ⟨[.ref x, v], []⟩) R s := by
  obtain ⟨oc, od, kV, doc, pm, an, cdv, ct, osl, p1, p2, q1, q2, q3, q4, ho, hcd⟩ := T.fn
  obtain ⟨nm, q, N, bs, bm, sn, sub, ab, col, dd, m0, m1, m2, m3, m5, hC, hbm⟩ := T.ob
  have cd : clsIn K C = some { name := nm, bases := bs, mro := .ref C :: bm, ns := N, qualname := q, hasDict := true, slotNames := sn, subclasses := sub, abstract := ab, collection := col, hasDel := false } := by
    unfold clsIn
    rw [hC] <;> rfl
  refine Att.call_fn (binds := [("self", .ref x), ("pair", v)]) X lim ho hcd room (BindsTo.of_eq (by first | rfl | with_unfolding_all rfl)) (by first | rfl | decide | with_unfolding_all rfl) (fun s₁ ic => ?_) rfl rfl rfl
  obtain ⟨h₁, tk₁, rfl⟩ := ic.toInCall.same
  have keep := ic.toInCall.keep
  have ns := ic.toInCall.ns
  have X₁ : K.In h₁ := X.keeps keep
  have hx₁ := keep _ _ hx
  show wpAny _ _ (execs _ _) _ _ _
  refine wpAny_execs_cons (plainObj_wpAny_Assign_Attribute (ld_param (v := v) ns (by first | rfl | with_unfolding_all rfl | kernel_rfl) (ld_param (v := .ref x) ns (by first | rfl | with_unfolding_all rfl | kernel_rfl) ?_)))
  refine set_plain X₁ (ox := excO C t0) (od := none) ⟨hx₁, rfl, rfl, trivial⟩ T.f_set (exc_osa X₁ hx₁ cd (show refsVE (.ref C :: bm) = true from hbm) rfl T.f_fld (fun h₃ tk₃ dx k₃ dn dne hx₃ hn₃ => ?_))
  have lt : s.heap.objs.size < h₁.objs.size := ns.lt
  show wpAny _ _ (execs _ _) _ _ _
  exact wpAny_execs_nil (fin h₃ tk₃ dx ⟨fun b o hb e => k₃ b o hb (keep b o e), hx₃, Nat.le_of_lt (Nat.lt_of_lt_of_le lt dn), dne, hn₃⟩)
theorem tl_made (T : TL K mg C f) {v : Value} (X : K.In s.heap) (lim : s.heap.NoLimit) (room : A.depth + 1 < recursionLimit) (fin : ∀ h' tk e d, TlMade s.heap h' e C d v → R (.ok (.ret (.ref e))) { s with heap := h', toks := tk }) :
    codeAny (model prog w) A (.call (.ref C) ⟨[v], []⟩) R s := by
  obtain ⟨nm, q, N, bs, bm, sn, sub, ab, col, dd, m0, m1, m2, m3, m5, hC, hbm⟩ := T.ob
  obtain ⟨hp, g, dr, tk, os⟩ := s
  have keep : ∀ b o, hp.get? b = some o → ((hp.push (kdv_tup [v])).push (excO C hp.objs.size)).get? b = some o := fun b o e => Heap.get?_push_of_some _ (Heap.get?_push_of_some _ e)
  have at_ : ((hp.push (kdv_tup [v])).push (excO C hp.objs.size)).get? (hp.objs.size + 1) = some (excO C hp.objs.size) := by heap_get
  refine call_own F.excBase_ValueError (fun Y => refsVE_contains Y bm hbm) (X _ _ hC) (looks_findIn X T.f_ini) (fun self => bind_fn X self T.tyF) (sz_one v) ?_
  refine tl_init (s := ⟨(hp.push (kdv_tup [v])).push (excO C hp.objs.size), g, dr, tk, os⟩) T (X.keeps keep) (lim.keeps keep) at_ (show A.depth + 1 < recursionLimit from room) fun h' tk' dx ⟨k', hx, dn, dne, hns⟩ => ?_
  have old : ∀ b o, hp.get? b = some o → h'.get? b = some o := fun b o e => k' b o (Nat.ne_of_lt (Nat.lt_succ_of_lt (Heap.lt_size e))) (keep b o e)
  have z : hp.objs.size + 1 + 1 ≤ dx := by
    first
      | (simpa only [Heap.size_push] using dn)
      | exact dn
      | (have q := dn; rw [Heap.size_push, Heap.size_push] at q; exact q)
  refine ⟨rfl, fin h' tk' (hp.objs.size + 1) dx ⟨old, Nat.le_succ _, ⟨_, _, hx, rfl, rfl, rfl, rfl⟩, Nat.le_trans (Nat.le_trans (Nat.le_succ _) (Nat.le_succ _)) z, dne, hns⟩⟩
end
theorem rel_bound {v : V} {v' : Value} (r : RelV v v') (g : Str) : RelO (List.lookup g [(("pair" : Str), v)]) (if g = "pair" then some v' else none) := by
  by_cases h : g = "pair"
  · subst h
    rw [if_pos rfl, show List.lookup ("pair" : Str) [(("pair" : Str), v)] = some v by simp [List.lookup]]
    exact r
  · rw [if_neg h, show List.lookup g [(("pair" : Str), v)] = none by
      have n : (g == ("pair" : Str)) = false := by simpa using h
      simp [List.lookup, n]]
    trivial
section
variable {X : Cx} {E : XK} {C f : Addr} {k : Nat} {a e : Expr} {es : List Expr} {Fa : Rho → M Sv} {Fs Fk : Rho → M (List Sv)} {p pos pos2 : Pos}
def mkTl (C : Addr) (ta : TA) : L2.St → Hp → XK → Prop := fun σ H Q => ta σ H fun vs H1 => ∃ v, vs = [v] ∧ ∀ d, H1 d = none → Q (.ref C) (some d) (upd H1 d (.xd [(("pair" : Str), v)]))
theorem pmk_tl {ta : TA} (T : TL X.K X.mg C f) (hr : Room k X.A) (ha : PA X [a] ta) (hg : Gl X "NoTable" := by rfl) (he : starEach (a :: []) X.env = (false, eval a X.env) :: starEach [] X.env := by rfl) (hpl : (backTo pos (starEach [] X.env)).any (·.1) = false := by rfl) :
    PMk X (.Call (.Name "NoTable" p) [a] [] pos) (mkTl C ta) := by
  intro pins s σ H Q I h
  refine wpAny_Call_Name_kw (ld_glob I hg T.gC (PySem.W.callWith_K (h₀ := X.base) I.ok.mod.kin T.kp (thn (ha.run pos pins s σ H _ I h) fun us s1 ⟨vs, H1, I1, r1, v, ev, q1⟩ => ⟨I1.kIn, ?_⟩) he hpl))
  subst ev
  obtain ⟨u, rfl, rv⟩ := vals1 r1
  show wpAny _ _ (call (.ref C) [u]) _ _ _
  have lim := I1.nolimit
  obtain ⟨hp, g, dr, tk, os⟩ := s1
  refine wpAny_call (tl_made T I1.kIn lim (by have := hr.dp; omega) fun h' tk' e d mk => ?_)
  show MkP X pins σ Q (.ref e) ⟨h', g, dr, tk', os⟩
  obtain ⟨oe, fv, hoe, hc, hd, hdat, h1⟩ := mk.self
  obtain ⟨G, g1, g2⟩ := restrict h' fun b => decide (b ≠ e)
  have gk : ∀ b, b ≠ e → G.get? b = h'.get? b := fun b hb => g1 b (decide_eq_true hb)
  have ge : G.get? e = none := g2 e (by simp)
  have old : ∀ b o, hp.get? b = some o → G.get? b = some o := fun b o q => (gk b (Nat.ne_of_lt (Nat.lt_of_lt_of_le (Heap.lt_size q) mk.new))).trans (mk.rest b o q)
  have ob : ObjOk X.prog X.w (upd H1 d (.xd [(("pair" : Str), v)])) G d (.xd [(("pair" : Str), v)]) := ⟨_, mk.fld.at (fun o q => (gk d mk.apart).trans q), fun g => rel_bound rv g⟩
  have J : Inv X pins σ (upd H1 d (.xd [(("pair" : Str), v)])) ⟨G, g, dr, tk', os⟩ := I1.laid (t' := tk') old mk.late ob
  have none_e : upd H1 d (.xd [(("pair" : Str), v)]) e = none := by
    rw [upd_ne (Ne.symm mk.apart)]
    exact I1.hok.fresh mk.new
  refine ⟨e, oe, fv, ⟨G, g, dr, tk', os⟩, _, .ref C, some d, rfl, J, fun b o q => ?_, ge, hoe, ⟨hc, hd⟩, hdat, h1, none_e, rfl, I1.bare, raises_own T.sub T.tyC, q1 d (I1.hok.fresh mk.late)⟩
  have q0 : G.get? b = some o := q
  have hb : b ≠ e := fun z => by
    rw [z, ge] at q0
    cases q0
  exact (gk b hb).symm.trans q0
def gRaise (Fa : Rho → M Sv) (ρ : Rho) : M Out := (Fa ρ).bind fun s => M.thr ⟨"NoTable", some ("pair", s)⟩
theorem s_raise (T : TL X.K X.mg C f) (hc : X.calm = true) (hr : Room k X.A) (tk : Takes X (fun cls d _ H => E cls d H)) (ha : PX X E a Fa) (hg : Gl X "NoTable" := by rfl) (he : starEach (a :: []) X.env = (false, eval a X.env) :: starEach [] X.env := by rfl) (hpl : (backTo pos (starEach [] X.env)).any (·.1) = false := by rfl) :
    PSX X E (.Raise (some (.Call (.Name "NoTable" p) [a] [] pos)) none pos2) (gRaise Fa) := ps_weak (ps_raise hc tk (pmk_tl T hr (pa_cons ha pa_nil he) hg he hpl)) fun D σ H ⟨W, ρ, μ, r, h, e, q⟩ => by
  refine tX_bind h e q fun v s W1 H1 μ1 g1 h1 rs e1 q1 => ⟨v, rfl, fun d hd => ?_⟩
  cases e1
  exact q1 W1 _ (.ref C) (some d) ((Grow.refl _ _ _).out hd fun b hb => upd_ne hb) (h1.rel.lay hd) ⟨⟨C, T.nC, rfl⟩, d, v, rfl, upd_same, rs⟩
end
end Err_NoTable
namespace Err_BadPushes
/-! ### an error of the program's own, with one field -/
section
open PySem.W PySem.Calls PySem.HandSPX
def tlArgs (a b : Pos) : Arguments := { vararg := none, kwarg := none, posonlyargs := [], kwonlyargs := [], kw_defaults := [], defaults := [], args := [{ arg := "self", annotation := none, pos := a }, { arg := "index", annotation := none, pos := b }] }
def tlBody (a b c d : Pos) : List Stmt := [.Assign [.Attribute (.Name "self" a) "index" b] (.Name "index" c) d]
def tlScope : Scope := { isGenerator := false, isCoroutine := false, more := [], kind := .function, names := [(PySem.Str.ofString "self", .local), (PySem.Str.ofString "index", .local)] }
/-- what stands of the class, at C, its __init__ at f -/
structure TL (K : Frag) (mg : Str → Option Value) (C f : Addr) : Prop where
  nC : nsIn K mainGlobals "BadPushes" = some (some (.ref C))
  gC : mg "BadPushes" = some (.ref C)
  ob : ∃ nm q N bs bm sn sub ab col dd m0 m1 m2 m3 m5, K.lookup C = some (excClassObj nm q C N bs bm true sn sub ab col dd m0 m1 m2 m3 m5 "ValueError.__new__") ∧ refsVE bm = true
  f_set : findIn K (.ref C) "__setattr__" = some (some (.builtin "object.__setattr__"))
  f_get : findIn K (.ref C) "__getattribute__" = some (some (.builtin "BaseException.__getattribute__"))
  f_at : findIn K (.ref C) "__getattr__" = some none
  f_fld : findIn K (.ref C) "index" = some none
  f_ini : findIn K (.ref C) "__init__" = some (some (.ref f))
  f_cls : findIn K (.ref C) "__class__" = some (some (.builtin "object.__class__"))
  s_get : specialIn K (.builtin "object.__class__") "__get__" = some (some (.builtin "getset_descriptor.__get__"))
  tk : takesIn K (.builtin "object.__class__") = some true
  mro : mroIn K C (.type "object") = some true
  tyF : typeIn K (.ref f) = some (.type "function")
  kp : keepIn K (.ref C) = true
  sub : subIn K (.ref C) (.type "BaseException") = some true
  tyC : typeIn K (.ref C) = some (.type "type")
  dct : hasDictIn K C = true
  fn : ∃ (oc : Value) (od : Option Addr) (kV doc pm : Value) (an : Option Addr) (cdv ct : Value) (osl : Array (Option Value)) (p1 p2 q1 q2 q3 q4 : Pos),
    K.lookup f = some ⟨oc, od, .func (fnOf "__init__" "BadPushes.__init__" (tlArgs p1 p2) (tlBody q1 q2 q3 q4) tlScope .none kV doc pm an cdv ct), osl⟩ ∧ codeIn K cdv "BadPushes.__init__" = true
theorem sz_one (v : Value) : [v].length ≤ sizeLine := by
  rw [sizeLine_eq]
  show 1 ≤ 16777216
  decide
theorem ld_param {M : Model} {s : Shared} {nm : Str} {sc : Scope} {L a : Addr} {cdv : Value} {m : Str → Option Value} {y : Str} {pos : Pos} {v : Value} {Q : Value → Shared → Prop} {A : Around} {E : Value → Shared → Prop} (hn : s.heap.Ns L m) (hv : m y = some v) (h : Q v s)
    (hk : sc.kind = .function := by rfl) (hl : (envOfC nm sc L a cdv).kindOf y = some .local := by rfl) (hd : (y == ("__debug__" : Str)) = false := by decide) : wpAny M A (eval (.Name y pos) (envOfC nm sc L a cdv)) Q E s := by
  refine wpAny_Name (wpAny_loadName_local hk hl hn hv h) hd
/-- behind __init__ -/
structure TlEnd (h h' : Heap) (x C dx t1 : Addr) (v : Value) : Prop where
  rest : ∀ b o, b ≠ x → h.get? b = some o → h'.get? b = some o
  self : h'.get? x = some { cls := .ref C, data := .fields #[.ref t1, .none, .none, .none, .bool false, .none], dict := some dx }
  late : h.objs.size ≤ dx
  apart : dx ≠ x
  fld : h'.Ns1 dx (fun y => if y = "index" then some v else none)
/-- behind the making -/
structure TlMade (h h' : Heap) (e C d : Addr) (v : Value) : Prop where
  rest : ∀ b o, h.get? b = some o → h'.get? b = some o
  new : h.objs.size ≤ e
  self : ∃ oe vs, h'.get? e = some oe ∧ oe.cls = .ref C ∧ oe.dict = some d ∧ oe.data = .fields vs ∧ vs[1]? = some .none
  late : h.objs.size ≤ d
  apart : d ≠ e
  fld : h'.Ns1 d (fun y => if y = "index" then some v else none)
variable {prog : Program} {w : World} {A : Around} {E : Value → Shared → Prop} {R : Result → Shared → Prop} {s : Shared} {K : Frag} {mg : Str → Option Value} {C f : Addr}
theorem tl_init (T : TL K mg C f) {x t0 : Addr} {v : Value} (X : K.In s.heap) (lim : s.heap.NoLimit) (hx : s.heap.get? x = some (excO C t0)) (room : A.depth < recursionLimit)
    (fin : ∀ h' tk dx, TlEnd s.heap h' x C dx t0 v → R (.ok (.ret .none)) { s with heap := h', toks := tk }) : codeAny (model prog w) A (.call (.ref f) ⟨[.ref x, v], []⟩) R s := by
  obtain ⟨oc, od, kV, doc, pm, an, cdv, ct, osl, p1, p2, q1, q2, q3, q4, ho, hcd⟩ := T.fn
  obtain ⟨nm, q, N, bs, bm, sn, sub, ab, col, dd, m0, m1, m2, m3, m5, hC, hbm⟩ := T.ob
  have cd : clsIn K C = some { name := nm, bases := bs, mro := .ref C :: bm, ns := N, qualname := q, hasDict := true, slotNames := sn, subclasses := sub, abstract := ab, collection := col, hasDel := false } := by
    unfold clsIn
    rw [hC] <;> rfl
  refine Att.call_fn (binds := [("self", .ref x), ("index", v)]) X lim ho hcd room (BindsTo.of_eq (by first | rfl | with_unfolding_all rfl)) (by first | rfl | decide | with_unfolding_all rfl) (fun s₁ ic => ?_) rfl rfl rfl
  obtain ⟨h₁, tk₁, rfl⟩ := ic.toInCall.same
  have keep := ic.toInCall.keep
  have ns := ic.toInCall.ns
  have X₁ : K.In h₁ := X.keeps keep
  have hx₁ := keep _ _ hx
  show wpAny _ _ (execs _ _) _ _ _
  refine wpAny_execs_cons (plainObj_wpAny_Assign_Attribute (ld_param (v := v) ns (by first | rfl | with_unfolding_all rfl | kernel_rfl) (ld_param (v := .ref x) ns (by first | rfl | with_unfolding_all rfl | kernel_rfl) ?_)))
  refine set_plain X₁ (ox := excO C t0) (od := none) ⟨hx₁, rfl, rfl, trivial⟩ T.f_set (exc_osa X₁ hx₁ cd (show refsVE (.ref C :: bm) = true from hbm) rfl T.f_fld (fun h₃ tk₃ dx k₃ dn dne hx₃ hn₃ => ?_))
  have lt : s.heap.objs.size < h₁.objs.size := ns.lt
  show wpAny _ _ (execs _ _) _ _ _
  exact wpAny_execs_nil (fin h₃ tk₃ dx ⟨fun b o hb e => k₃ b o hb (keep b o e), hx₃, Nat.le_of_lt (Nat.lt_of_lt_of_le lt dn), dne, hn₃⟩)
theorem tl_made (T : TL K mg C f) {v : Value} (X : K.In s.heap) (lim : s.heap.NoLimit) (room : A.depth + 1 < recursionLimit) (fin : ∀ h' tk e d, TlMade s.heap h' e C d v → R (.ok (.ret (.ref e))) { s with heap := h', toks := tk }) :
    codeAny (model prog w) A (.call (.ref C) ⟨[v], []⟩) R s := by
  obtain ⟨nm, q, N, bs, bm, sn, sub, ab, col, dd, m0, m1, m2, m3, m5, hC, hbm⟩ := T.ob
  obtain ⟨hp, g, dr, tk, os⟩ := s
  have keep : ∀ b o, hp.get? b = some o → ((hp.push (kdv_tup [v])).push (excO C hp.objs.size)).get? b = some o := fun b o e => Heap.get?_push_of_some _ (Heap.get?_push_of_some _ e)
  have at_ : ((hp.push (kdv_tup [v])).push (excO C hp.objs.size)).get? (hp.objs.size + 1) = some (excO C hp.objs.size) := by heap_get
  refine call_own F.excBase_ValueError (fun Y => refsVE_contains Y bm hbm) (X _ _ hC) (looks_findIn X T.f_ini) (fun self => bind_fn X self T.tyF) (sz_one v) ?_
  refine tl_init (s := ⟨(hp.push (kdv_tup [v])).push (excO C hp.objs.size), g, dr, tk, os⟩) T (X.keeps keep) (lim.keeps keep) at_ (show A.depth + 1 < recursionLimit from room) fun h' tk' dx ⟨k', hx, dn, dne, hns⟩ => ?_
  have old : ∀ b o, hp.get? b = some o → h'.get? b = some o := fun b o e => k' b o (Nat.ne_of_lt (Nat.lt_succ_of_lt (Heap.lt_size e))) (keep b o e)
  have z : hp.objs.size + 1 + 1 ≤ dx := by
    first
      | (simpa only [Heap.size_push] using dn)
      | exact dn
      | (have q := dn; rw [Heap.size_push, Heap.size_push] at q; exact q)
  refine ⟨rfl, fin h' tk' (hp.objs.size + 1) dx ⟨old, Nat.le_succ _, ⟨_, _, hx, rfl, rfl, rfl, rfl⟩, Nat.le_trans (Nat.le_trans (Nat.le_succ _) (Nat.le_succ _)) z, dne, hns⟩⟩
end
theorem rel_bound {v : V} {v' : Value} (r : RelV v v') (g : Str) : RelO (List.lookup g [(("index" : Str), v)]) (if g = "index" then some v' else none) := by
  by_cases h : g = "index"
  · subst h
    rw [if_pos rfl, show List.lookup ("index" : Str) [(("index" : Str), v)] = some v by simp [List.lookup]]
    exact r
  · rw [if_neg h, show List.lookup g [(("index" : Str), v)] = none by
      have n : (g == ("index" : Str)) = false := by simpa using h
      simp [List.lookup, n]]
    trivial
section
variable {X : Cx} {E : XK} {C f : Addr} {k : Nat} {a e : Expr} {es : List Expr} {Fa : Rho → M Sv} {Fs Fk : Rho → M (List Sv)} {p pos pos2 : Pos}
def mkTl (C : Addr) (ta : TA) : L2.St → Hp → XK → Prop := fun σ H Q => ta σ H fun vs H1 => ∃ v, vs = [v] ∧ ∀ d, H1 d = none → Q (.ref C) (some d) (upd H1 d (.xd [(("index" : Str), v)]))
theorem pmk_tl {ta : TA} (T : TL X.K X.mg C f) (hr : Room k X.A) (ha : PA X [a] ta) (hg : Gl X "BadPushes" := by rfl) (he : starEach (a :: []) X.env = (false, eval a X.env) :: starEach [] X.env := by rfl) (hpl : (backTo pos (starEach [] X.env)).any (·.1) = false := by rfl) :
    PMk X (.Call (.Name "BadPushes" p) [a] [] pos) (mkTl C ta) := by
  intro pins s σ H Q I h
  refine wpAny_Call_Name_kw (ld_glob I hg T.gC (PySem.W.callWith_K (h₀ := X.base) I.ok.mod.kin T.kp (thn (ha.run pos pins s σ H _ I h) fun us s1 ⟨vs, H1, I1, r1, v, ev, q1⟩ => ⟨I1.kIn, ?_⟩) he hpl))
  subst ev
  obtain ⟨u, rfl, rv⟩ := vals1 r1
  show wpAny _ _ (call (.ref C) [u]) _ _ _
  have lim := I1.nolimit
  obtain ⟨hp, g, dr, tk, os⟩ := s1
  refine wpAny_call (tl_made T I1.kIn lim (by have := hr.dp; omega) fun h' tk' e d mk => ?_)
  show MkP X pins σ Q (.ref e) ⟨h', g, dr, tk', os⟩
  obtain ⟨oe, fv, hoe, hc, hd, hdat, h1⟩ := mk.self
  obtain ⟨G, g1, g2⟩ := restrict h' fun b => decide (b ≠ e)
  have gk : ∀ b, b ≠ e → G.get? b = h'.get? b := fun b hb => g1 b (decide_eq_true hb)
  have ge : G.get? e = none := g2 e (by simp)
  have old : ∀ b o, hp.get? b = some o → G.get? b = some o := fun b o q => (gk b (Nat.ne_of_lt (Nat.lt_of_lt_of_le (Heap.lt_size q) mk.new))).trans (mk.rest b o q)
  have ob : ObjOk X.prog X.w (upd H1 d (.xd [(("index" : Str), v)])) G d (.xd [(("index" : Str), v)]) := ⟨_, mk.fld.at (fun o q => (gk d mk.apart).trans q), fun g => rel_bound rv g⟩
  have J : Inv X pins σ (upd H1 d (.xd [(("index" : Str), v)])) ⟨G, g, dr, tk', os⟩ := I1.laid (t' := tk') old mk.late ob
  have none_e : upd H1 d (.xd [(("index" : Str), v)]) e = none := by
    rw [upd_ne (Ne.symm mk.apart)]
    exact I1.hok.fresh mk.new
  refine ⟨e, oe, fv, ⟨G, g, dr, tk', os⟩, _, .ref C, some d, rfl, J, fun b o q => ?_, ge, hoe, ⟨hc, hd⟩, hdat, h1, none_e, rfl, I1.bare, raises_own T.sub T.tyC, q1 d (I1.hok.fresh mk.late)⟩
  have q0 : G.get? b = some o := q
  have hb : b ≠ e := fun z => by
    rw [z, ge] at q0
    cases q0
  exact (gk b hb).symm.trans q0
def gRaise (Fa : Rho → M Sv) (ρ : Rho) : M Out := (Fa ρ).bind fun s => M.thr ⟨"BadPushes", some ("index", s)⟩
theorem s_raise (T : TL X.K X.mg C f) (hc : X.calm = true) (hr : Room k X.A) (tk : Takes X (fun cls d _ H => E cls d H)) (ha : PX X E a Fa) (hg : Gl X "BadPushes" := by rfl) (he : starEach (a :: []) X.env = (false, eval a X.env) :: starEach [] X.env := by rfl) (hpl : (backTo pos (starEach [] X.env)).any (·.1) = false := by rfl) :
    PSX X E (.Raise (some (.Call (.Name "BadPushes" p) [a] [] pos)) none pos2) (gRaise Fa) := ps_weak (ps_raise hc tk (pmk_tl T hr (pa_cons ha pa_nil he) hg he hpl)) fun D σ H ⟨W, ρ, μ, r, h, e, q⟩ => by
  refine tX_bind h e q fun v s W1 H1 μ1 g1 h1 rs e1 q1 => ⟨v, rfl, fun d hd => ?_⟩
  cases e1
  exact q1 W1 _ (.ref C) (some d) ((Grow.refl _ _ _).out hd fun b hb => upd_ne hb) (h1.rel.lay hd) ⟨⟨C, T.nC, rfl⟩, d, v, rfl, upd_same, rs⟩
end
end Err_BadPushes
end Pf

set_option maxHeartbeats 1000000
namespace Pf
open PySem PySem.Spec PyProof.Rows L2
/-! ### a def that is given a caught error -/
/-- the room that a call within a suite has -/
structure RoomS (k : Nat) (A : Around) : Prop where
  dp : A.depth + 3 * k + 5 < recursionLimit
  un : A.units + 16 * k + 200 < cLine
/-- what such a def wants of its argument, and gives -/
structure Gw (P : Program) (w : World) (K : PySem.W.Frag) (mg : Str → Option Value) (base : Heap) (CX : CXT) (k : Nat) (f : Addr) (fd : FuncData) (ps : List Str) (C : Addr) (fl : Str) : Prop where
  grun : ∀ (A : Around) (below : List Env) (s : Shared) (H : Hp) (ar : Args) (Q : VK) (E : XK) (a dd : Addr) (oe : Obj) (v : V), RoomS k A → A.handled = some (.ref a) → L2H.PinOk below H s (a, oe) → Zc (.ref C) (some dd) oe → (∃ vs, oe.data = .fields vs) → Env0 P w K mg base A below s H → BindsTo s fd ar (ps.zip [.ref a]) →
    H dd = some (.xd [(fl, v)]) → (∀ t o p, H t = none → upd H t o p = none → Q (.ref p) (upd (upd H t o) p (.lst [v]))) → codeAny (model P w) A (.call (.ref f) ar) (CR CX below P w H s Q E) s
section
variable {P : Program} {w : World} {K : PySem.W.Frag} {mg : Str → Option Value} {base : Heap} {k : Nat} {f C : Addr} {fd : FuncData} {x qual fl : Str} {st : Stmt} {N ps : List Str}
end
/-! ### isinstance of it -/
def clsV : V → Option Value
  | .ref a => some (.ref a)
  | .ty n => some (.type n)
  | _ => none
theorem cls_rel {c : V} {u cv : Value} (h : clsV c = some cv) (r : RelV c u) : u = cv := by
  cases c <;> first | (cases h; exact r) | cases h
def clsVs : List V → Option (List Value)
  | [] => some []
  | c :: cs => (clsV c).bind fun v => (clsVs cs).map (v :: ·)
theorem clss_rel : ∀ {cs : List V} {us cvs : List Value}, clsVs cs = some cvs → Vals cs us → us = cvs
  | [], _, _, h, .nil => by
    cases h
    rfl
  | c :: cs, _, cvs, h, .cons r rs => by
    have h' : ((clsV c).bind fun v => (clsVs cs).map (v :: ·)) = some cvs := h
    cases hc : clsV c with
    | none =>
      rw [hc] at h'
      cases h'
    | some v =>
      rw [hc] at h'
      cases hs : clsVs cs with
      | none =>
        have h2 : (clsVs cs).map (v :: ·) = some cvs := h'
        rw [hs] at h2
        cases h2
      | some vs =>
        have h2 : (clsVs cs).map (v :: ·) = some cvs := h'
        rw [hs] at h2
        cases h2
        rw [cls_rel hc r, clss_rel hs rs]
section
variable {X : Cx} {C f : Addr} {k : Nat}
/-- the classes that _law_word names -/
structure WordZ (K : PySem.W.Frag) (mg : Str → Option Value) (C f c1 c2 c3 c4 c5 : Addr) : Prop where
  tl : Err_NoTable.TL K mg C f
  g1 : mg "BadWindows" = some (.ref c1)
  g2 : mg "Conflict" = some (.ref c2)
  g3 : mg "Misfit" = some (.ref c3)
  g4 : mg "NoLast" = some (.ref c4)
  g5 : mg "TooLarge" = some (.ref c5)
  gL : mg "LookupError" = none
  k0 : PySem.W.kitOne K (.ref C) (.ref C) = some true
  k1 : PySem.W.kitAny K (.ref C) [.ref c1, .ref c2, .ref c3, .ref c4, .ref c5, .type "LookupError"] = some false
end
/-! ### the call within the suite -/
section
variable {X : Cx} {C f : Addr} {fd : FuncData} {k j i : Nat} {ps : List Str} {fl x n : Str} {a : Addr} {oe : Obj} {cls : Value} {d : Option Addr} {pn : List (Addr × Obj)} {p p2 pos : Pos}
/-! ### try: return ..; except FallError as e: return word(e) -/
end
end Pf

set_option maxHeartbeats 1000000
namespace Pf
open PySem PySem.Spec PyProof.Rows L2
section
variable {l : En} {G : Rho → M Out} {t : S PyData} {C fl : Str}
end
end Pf

set_option maxHeartbeats 1000000
namespace Pf
open PySem PySem.Spec PyProof.Rows L2 PySem.W
/-! ### min(l, default=None) over a list of ints -/
section
variable {X : Cx} {E : XK} {a d : Expr} {es : List Expr} {x : Str} {p pos kpos : Pos} {Fa : Rho → M Sv} {Fs Fk : Rho → M (List Sv)}
/-! ### None not in a tuple -/
/-! ### a, b = a list of that length -/
end
end Pf

set_option maxHeartbeats 1000000
namespace Pf
open PySem PySem.Spec PyProof.Rows L2
section
variable {l l1 : En} {Fa : Rho → M Sv} {ta : S PyData}
end
section
variable {l : En} {σ τ : Type}
end
end Pf

set_option maxHeartbeats 1000000
namespace Pf
open PySem PySem.Spec PyProof.Rows L2
def vAnd (a : Bool) (t : S PyData) : S PyData := if a = true then t else S.ret (.bool false)
theorem e_chain {l l1 l2 : En} {op op' : Sv → Sv → M Sv} {c c' : PyData → PyData → Option Bool} {Fa Fb Fc : Rho → M Sv} {ta tb tc : S PyData} (ho : OpB op c) (ho' : OpB op' c') (ha : Jd l Fa ta (pV l1)) (hb : Jd l1 Fb tb (pV l2)) (hc : Jd l2 Fc tc (pW l2)) :
    Jd l (chain op op' Fa Fb Fc) (ta.bind fun a => tb.bind fun b => (S.lift (c a b)).bind fun z => vAnd z (tc.bind fun d => S.lift (asB2 (c' b d)))) (pV l2) := fun k rest ρ μ e => by
  refine (ha k rest ρ μ e).bind fun k1 μ1 a da ⟨z, e1⟩ => ?_
  subst z
  refine (hb k1 rest ρ μ1 e1).bind fun k2 μ2 b db ⟨z, e2⟩ => ?_
  subst z
  refine Jl.pre fun d q => ?_
  have q2 : ∀ f : Sv → M Sv, (op (.dat da) (.dat db)).bind f μ2 = f (.dat (.bool d)) μ2 := fun f => bind_ok (ho _ _ da db d μ2 .dat .dat q)
  intro r k' h
  rw [q2]
  have := (Jl.ite (k := k2) (rest := rest) (ρ := ρ) (μ := μ2) (c := d) (m := (Fc ρ).bind fun c => op' (.dat db) c) (m' := M.ret (.dat (.bool false))) (P := pV l2) (t := tc.bind fun d => S.lift (asB2 (c' db d))) (t' := S.ret (.bool false)) ?_ ?_) r k' h
  · exact this
  · refine (hc k2 rest ρ μ2 e2).bind fun k3 μ3 g dg ⟨rg, e3⟩ => ?_
    refine Jl.lift fun d2 q => ?_
    unfold asB2 at q
    cases hq : c' db dg with
    | none =>
      rw [hq] at q
      cases q
    | some b2 =>
      rw [hq] at q
      cases q
      exact ⟨_, μ3, ho' _ _ db dg b2 μ3 .dat rg hq, rfl, e3⟩
  · exact Jl.ret ⟨rfl, e2⟩
end Pf

set_option maxHeartbeats 1000000
namespace Pf
open PySem PySem.Spec PyProof.Rows L2 PySem.W
section
variable {X : Cx} {E : XK}
/-! ### is, is not between truth values -/
end
end Pf

set_option maxHeartbeats 1000000
namespace Pf
open PySem PySem.Spec PyProof.Rows L2
end Pf

set_option maxHeartbeats 1000000
namespace Pf
open PySem PySem.Spec PyProof.Rows L2 PySem.W
section
variable {X : Cx} {E : XK}
/-! ### t > u of two pairs of ints -/
end
end Pf

set_option maxHeartbeats 1000000
namespace Pf
open PySem PySem.Spec PyProof.Rows L2
end Pf

namespace Pf
open PySem PySem.Spec PyProof.Rows L2
namespace Err_TooLarge
/-! ### an error of the program's own, with one field -/
section
open PySem.W PySem.Calls PySem.HandSPX
def tlArgs (a b : Pos) : Arguments := { vararg := none, kwarg := none, posonlyargs := [], kwonlyargs := [], kw_defaults := [], defaults := [], args := [{ arg := "self", annotation := none, pos := a }, { arg := "bound", annotation := none, pos := b }] }
def tlBody (a b c d : Pos) : List Stmt := [.Assign [.Attribute (.Name "self" a) "bound" b] (.Name "bound" c) d]
def tlScope : Scope := { isGenerator := false, isCoroutine := false, more := [], kind := .function, names := [(PySem.Str.ofString "self", .local), (PySem.Str.ofString "bound", .local)] }
/-- what stands of the class, at C, its __init__ at f -/
structure TL (K : Frag) (mg : Str → Option Value) (C f : Addr) : Prop where
  nC : nsIn K mainGlobals "TooLarge" = some (some (.ref C))
  gC : mg "TooLarge" = some (.ref C)
  ob : ∃ nm q N bs bm sn sub ab col dd m0 m1 m2 m3 m5, K.lookup C = some (excClassObj nm q C N bs bm true sn sub ab col dd m0 m1 m2 m3 m5 "ValueError.__new__") ∧ refsVE bm = true
  f_set : findIn K (.ref C) "__setattr__" = some (some (.builtin "object.__setattr__"))
  f_get : findIn K (.ref C) "__getattribute__" = some (some (.builtin "BaseException.__getattribute__"))
  f_at : findIn K (.ref C) "__getattr__" = some none
  f_fld : findIn K (.ref C) "bound" = some none
  f_ini : findIn K (.ref C) "__init__" = some (some (.ref f))
  f_cls : findIn K (.ref C) "__class__" = some (some (.builtin "object.__class__"))
  s_get : specialIn K (.builtin "object.__class__") "__get__" = some (some (.builtin "getset_descriptor.__get__"))
  tk : takesIn K (.builtin "object.__class__") = some true
  mro : mroIn K C (.type "object") = some true
  tyF : typeIn K (.ref f) = some (.type "function")
  kp : keepIn K (.ref C) = true
  sub : subIn K (.ref C) (.type "BaseException") = some true
  tyC : typeIn K (.ref C) = some (.type "type")
  dct : hasDictIn K C = true
  fn : ∃ (oc : Value) (od : Option Addr) (kV doc pm : Value) (an : Option Addr) (cdv ct : Value) (osl : Array (Option Value)) (p1 p2 q1 q2 q3 q4 : Pos),
    K.lookup f = some ⟨oc, od, .func (fnOf "__init__" "TooLarge.__init__" (tlArgs p1 p2) (tlBody q1 q2 q3 q4) tlScope .none kV doc pm an cdv ct), osl⟩ ∧ codeIn K cdv "TooLarge.__init__" = true
theorem sz_one (v : Value) : [v].length ≤ sizeLine := by
  rw [sizeLine_eq]
  show 1 ≤ 16777216
  decide
theorem ld_param {M : Model} {s : Shared} {nm : Str} {sc : Scope} {L a : Addr} {cdv : Value} {m : Str → Option Value} {y : Str} {pos : Pos} {v : Value} {Q : Value → Shared → Prop} {A : Around} {E : Value → Shared → Prop} (hn : s.heap.Ns L m) (hv : m y = some v) (h : Q v s)
    (hk : sc.kind = .function := by rfl) (hl : (envOfC nm sc L a cdv).kindOf y = some .local := by rfl) (hd : (y == ("__debug__" : Str)) = false := by decide) : wpAny M A (eval (.Name y pos) (envOfC nm sc L a cdv)) Q E s := by
  refine wpAny_Name (wpAny_loadName_local hk hl hn hv h) hd
/-- behind __init__ -/
structure TlEnd (h h' : Heap) (x C dx t1 : Addr) (v : Value) : Prop where
  rest : ∀ b o, b ≠ x → h.get? b = some o → h'.get? b = some o
  self : h'.get? x = some { cls := .ref C, data := .fields #[.ref t1, .none, .none, .none, .bool false, .none], dict := some dx }
  late : h.objs.size ≤ dx
  apart : dx ≠ x
  fld : h'.Ns1 dx (fun y => if y = "bound" then some v else none)
/-- behind the making -/
structure TlMade (h h' : Heap) (e C d : Addr) (v : Value) : Prop where
  rest : ∀ b o, h.get? b = some o → h'.get? b = some o
  new : h.objs.size ≤ e
  self : ∃ oe vs, h'.get? e = some oe ∧ oe.cls = .ref C ∧ oe.dict = some d ∧ oe.data = .fields vs ∧ vs[1]? = some .none
  late : h.objs.size ≤ d
  apart : d ≠ e
  fld : h'.Ns1 d (fun y => if y = "bound" then some v else none)
variable {prog : Program} {w : World} {A : Around} {E : Value → Shared → Prop} {R : Result → Shared → Prop} {s : Shared} {K : Frag} {mg : Str → Option Value} {C f : Addr}
theorem tl_init (T : TL K mg C f) {x t0 : Addr} {v : Value} (X : K.In s.heap) (lim : s.heap.NoLimit) (hx : s.heap.get? x = some (excO C t0)) (room : A.depth < recursionLimit)
    (fin : ∀ h' tk dx, TlEnd s.heap h' x C dx t0 v → R (.ok (.ret .none)) { s with heap := h', toks := tk }) : codeAny (model prog w) A (.call (.ref f) ⟨[.ref x, v], []⟩) R s := by
  obtain ⟨oc, od, kV, doc, pm, an, cdv, ct, osl, p1, p2, q1, q2, q3, q4, ho, hcd⟩ := T.fn
  obtain ⟨nm, q, N, bs, bm, sn, sub, ab, col, dd, m0, m1, m2, m3, m5, hC, hbm⟩ := T.ob
  have cd : clsIn K C = some { name := nm, bases := bs, mro := .ref C :: bm, ns := N, qualname := q, hasDict := true, slotNames := sn, subclasses := sub, abstract := ab, collection := col, hasDel := false } := by
    unfold clsIn
    rw [hC] <;> rfl
  refine Att.call_fn (binds := [("self", .ref x), ("bound", v)]) X lim ho hcd room (BindsTo.of_eq (by first | rfl | with_unfolding_all rfl)) (by first | rfl | decide | with_unfolding_all rfl) (fun s₁ ic => ?_) rfl rfl rfl
  obtain ⟨h₁, tk₁, rfl⟩ := ic.toInCall.same
  have keep := ic.toInCall.keep
  have ns := ic.toInCall.ns
  have X₁ : K.In h₁ := X.keeps keep
  have hx₁ := keep _ _ hx
  show wpAny _ _ (execs _ _) _ _ _
  refine wpAny_execs_cons (plainObj_wpAny_Assign_Attribute (ld_param (v := v) ns (by first | rfl | with_unfolding_all rfl | kernel_rfl) (ld_param (v := .ref x) ns (by first | rfl | with_unfolding_all rfl | kernel_rfl) ?_)))
  refine set_plain X₁ (ox := excO C t0) (od := none) ⟨hx₁, rfl, rfl, trivial⟩ T.f_set (exc_osa X₁ hx₁ cd (show refsVE (.ref C :: bm) = true from hbm) rfl T.f_fld (fun h₃ tk₃ dx k₃ dn dne hx₃ hn₃ => ?_))
  have lt : s.heap.objs.size < h₁.objs.size := ns.lt
  show wpAny _ _ (execs _ _) _ _ _
  exact wpAny_execs_nil (fin h₃ tk₃ dx ⟨fun b o hb e => k₃ b o hb (keep b o e), hx₃, Nat.le_of_lt (Nat.lt_of_lt_of_le lt dn), dne, hn₃⟩)
theorem tl_made (T : TL K mg C f) {v : Value} (X : K.In s.heap) (lim : s.heap.NoLimit) (room : A.depth + 1 < recursionLimit) (fin : ∀ h' tk e d, TlMade s.heap h' e C d v → R (.ok (.ret (.ref e))) { s with heap := h', toks := tk }) :
    codeAny (model prog w) A (.call (.ref C) ⟨[v], []⟩) R s := by
  obtain ⟨nm, q, N, bs, bm, sn, sub, ab, col, dd, m0, m1, m2, m3, m5, hC, hbm⟩ := T.ob
  obtain ⟨hp, g, dr, tk, os⟩ := s
  have keep : ∀ b o, hp.get? b = some o → ((hp.push (kdv_tup [v])).push (excO C hp.objs.size)).get? b = some o := fun b o e => Heap.get?_push_of_some _ (Heap.get?_push_of_some _ e)
  have at_ : ((hp.push (kdv_tup [v])).push (excO C hp.objs.size)).get? (hp.objs.size + 1) = some (excO C hp.objs.size) := by heap_get
  refine call_own F.excBase_ValueError (fun Y => refsVE_contains Y bm hbm) (X _ _ hC) (looks_findIn X T.f_ini) (fun self => bind_fn X self T.tyF) (sz_one v) ?_
  refine tl_init (s := ⟨(hp.push (kdv_tup [v])).push (excO C hp.objs.size), g, dr, tk, os⟩) T (X.keeps keep) (lim.keeps keep) at_ (show A.depth + 1 < recursionLimit from room) fun h' tk' dx ⟨k', hx, dn, dne, hns⟩ => ?_
  have old : ∀ b o, hp.get? b = some o → h'.get? b = some o := fun b o e => k' b o (Nat.ne_of_lt (Nat.lt_succ_of_lt (Heap.lt_size e))) (keep b o e)
  have z : hp.objs.size + 1 + 1 ≤ dx := by
    first
      | (simpa only [Heap.size_push] using dn)
      | exact dn
      | (have q := dn; rw [Heap.size_push, Heap.size_push] at q; exact q)
  refine ⟨rfl, fin h' tk' (hp.objs.size + 1) dx ⟨old, Nat.le_succ _, ⟨_, _, hx, rfl, rfl, rfl, rfl⟩, Nat.le_trans (Nat.le_trans (Nat.le_succ _) (Nat.le_succ _)) z, dne, hns⟩⟩
end
theorem rel_bound {v : V} {v' : Value} (r : RelV v v') (g : Str) : RelO (List.lookup g [(("bound" : Str), v)]) (if g = "bound" then some v' else none) := by
  by_cases h : g = "bound"
  · subst h
    rw [if_pos rfl, show List.lookup ("bound" : Str) [(("bound" : Str), v)] = some v by simp [List.lookup]]
    exact r
  · rw [if_neg h, show List.lookup g [(("bound" : Str), v)] = none by
      have n : (g == ("bound" : Str)) = false := by simpa using h
      simp [List.lookup, n]]
    trivial
section
variable {X : Cx} {E : XK} {C f : Addr} {k : Nat} {a e : Expr} {es : List Expr} {Fa : Rho → M Sv} {Fs Fk : Rho → M (List Sv)} {p pos pos2 : Pos}
def mkTl (C : Addr) (ta : TA) : L2.St → Hp → XK → Prop := fun σ H Q => ta σ H fun vs H1 => ∃ v, vs = [v] ∧ ∀ d, H1 d = none → Q (.ref C) (some d) (upd H1 d (.xd [(("bound" : Str), v)]))
theorem pmk_tl {ta : TA} (T : TL X.K X.mg C f) (hr : Room k X.A) (ha : PA X [a] ta) (hg : Gl X "TooLarge" := by rfl) (he : starEach (a :: []) X.env = (false, eval a X.env) :: starEach [] X.env := by rfl) (hpl : (backTo pos (starEach [] X.env)).any (·.1) = false := by rfl) :
    PMk X (.Call (.Name "TooLarge" p) [a] [] pos) (mkTl C ta) := by
  intro pins s σ H Q I h
  refine wpAny_Call_Name_kw (ld_glob I hg T.gC (PySem.W.callWith_K (h₀ := X.base) I.ok.mod.kin T.kp (thn (ha.run pos pins s σ H _ I h) fun us s1 ⟨vs, H1, I1, r1, v, ev, q1⟩ => ⟨I1.kIn, ?_⟩) he hpl))
  subst ev
  obtain ⟨u, rfl, rv⟩ := vals1 r1
  show wpAny _ _ (call (.ref C) [u]) _ _ _
  have lim := I1.nolimit
  obtain ⟨hp, g, dr, tk, os⟩ := s1
  refine wpAny_call (tl_made T I1.kIn lim (by have := hr.dp; omega) fun h' tk' e d mk => ?_)
  show MkP X pins σ Q (.ref e) ⟨h', g, dr, tk', os⟩
  obtain ⟨oe, fv, hoe, hc, hd, hdat, h1⟩ := mk.self
  obtain ⟨G, g1, g2⟩ := restrict h' fun b => decide (b ≠ e)
  have gk : ∀ b, b ≠ e → G.get? b = h'.get? b := fun b hb => g1 b (decide_eq_true hb)
  have ge : G.get? e = none := g2 e (by simp)
  have old : ∀ b o, hp.get? b = some o → G.get? b = some o := fun b o q => (gk b (Nat.ne_of_lt (Nat.lt_of_lt_of_le (Heap.lt_size q) mk.new))).trans (mk.rest b o q)
  have ob : ObjOk X.prog X.w (upd H1 d (.xd [(("bound" : Str), v)])) G d (.xd [(("bound" : Str), v)]) := ⟨_, mk.fld.at (fun o q => (gk d mk.apart).trans q), fun g => rel_bound rv g⟩
  have J : Inv X pins σ (upd H1 d (.xd [(("bound" : Str), v)])) ⟨G, g, dr, tk', os⟩ := I1.laid (t' := tk') old mk.late ob
  have none_e : upd H1 d (.xd [(("bound" : Str), v)]) e = none := by
    rw [upd_ne (Ne.symm mk.apart)]
    exact I1.hok.fresh mk.new
  refine ⟨e, oe, fv, ⟨G, g, dr, tk', os⟩, _, .ref C, some d, rfl, J, fun b o q => ?_, ge, hoe, ⟨hc, hd⟩, hdat, h1, none_e, rfl, I1.bare, raises_own T.sub T.tyC, q1 d (I1.hok.fresh mk.late)⟩
  have q0 : G.get? b = some o := q
  have hb : b ≠ e := fun z => by
    rw [z, ge] at q0
    cases q0
  exact (gk b hb).symm.trans q0
def gRaise (Fa : Rho → M Sv) (ρ : Rho) : M Out := (Fa ρ).bind fun s => M.thr ⟨"TooLarge", some ("bound", s)⟩
theorem s_raise (T : TL X.K X.mg C f) (hc : X.calm = true) (hr : Room k X.A) (tk : Takes X (fun cls d _ H => E cls d H)) (ha : PX X E a Fa) (hg : Gl X "TooLarge" := by rfl) (he : starEach (a :: []) X.env = (false, eval a X.env) :: starEach [] X.env := by rfl) (hpl : (backTo pos (starEach [] X.env)).any (·.1) = false := by rfl) :
    PSX X E (.Raise (some (.Call (.Name "TooLarge" p) [a] [] pos)) none pos2) (gRaise Fa) := ps_weak (ps_raise hc tk (pmk_tl T hr (pa_cons ha pa_nil he) hg he hpl)) fun D σ H ⟨W, ρ, μ, r, h, e, q⟩ => by
  refine tX_bind h e q fun v s W1 H1 μ1 g1 h1 rs e1 q1 => ⟨v, rfl, fun d hd => ?_⟩
  cases e1
  exact q1 W1 _ (.ref C) (some d) ((Grow.refl _ _ _).out hd fun b hb => upd_ne hb) (h1.rel.lay hd) ⟨⟨C, T.nC, rfl⟩, d, v, rfl, upd_same, rs⟩
end
end Err_TooLarge
namespace Err_Conflict
/-! ### an error of the program's own, with one field -/
section
open PySem.W PySem.Calls PySem.HandSPX
def tlArgs (a b : Pos) : Arguments := { vararg := none, kwarg := none, posonlyargs := [], kwonlyargs := [], kw_defaults := [], defaults := [], args := [{ arg := "self", annotation := none, pos := a }, { arg := "pair", annotation := none, pos := b }] }
def tlBody (a b c d : Pos) : List Stmt := [.Assign [.Attribute (.Name "self" a) "pair" b] (.Name "pair" c) d]
def tlScope : Scope := { isGenerator := false, isCoroutine := false, more := [], kind := .function, names := [(PySem.Str.ofString "self", .local), (PySem.Str.ofString "pair", .local)] }
/-- what stands of the class, at C, its __init__ at f -/
structure TL (K : Frag) (mg : Str → Option Value) (C f : Addr) : Prop where
  nC : nsIn K mainGlobals "Conflict" = some (some (.ref C))
  gC : mg "Conflict" = some (.ref C)
  ob : ∃ nm q N bs bm sn sub ab col dd m0 m1 m2 m3 m5, K.lookup C = some (excClassObj nm q C N bs bm true sn sub ab col dd m0 m1 m2 m3 m5 "ValueError.__new__") ∧ refsVE bm = true
  f_set : findIn K (.ref C) "__setattr__" = some (some (.builtin "object.__setattr__"))
  f_get : findIn K (.ref C) "__getattribute__" = some (some (.builtin "BaseException.__getattribute__"))
  f_at : findIn K (.ref C) "__getattr__" = some none
  f_fld : findIn K (.ref C) "pair" = some none
  f_ini : findIn K (.ref C) "__init__" = some (some (.ref f))
  f_cls : findIn K (.ref C) "__class__" = some (some (.builtin "object.__class__"))
  s_get : specialIn K (.builtin "object.__class__") "__get__" = some (some (.builtin "getset_descriptor.__get__"))
  tk : takesIn K (.builtin "object.__class__") = some true
  mro : mroIn K C (.type "object") = some true
  tyF : typeIn K (.ref f) = some (.type "function")
  kp : keepIn K (.ref C) = true
  sub : subIn K (.ref C) (.type "BaseException") = some true
  tyC : typeIn K (.ref C) = some (.type "type")
  dct : hasDictIn K C = true
  fn : ∃ (oc : Value) (od : Option Addr) (kV doc pm : Value) (an : Option Addr) (cdv ct : Value) (osl : Array (Option Value)) (p1 p2 q1 q2 q3 q4 : Pos),
    K.lookup f = some ⟨oc, od, .func (fnOf "__init__" "Conflict.__init__" (tlArgs p1 p2) (tlBody q1 q2 q3 q4) tlScope .none kV doc pm an cdv ct), osl⟩ ∧ codeIn K cdv "Conflict.__init__" = true
theorem sz_one (v : Value) : [v].length ≤ sizeLine := by
  rw [sizeLine_eq]
  show 1 ≤ 16777216
  decide
theorem ld_param {M : Model} {s : Shared} {nm : Str} {sc : Scope} {L a : Addr} {cdv : Value} {m : Str → Option Value} {y : Str} {pos : Pos} {v : Value} {Q : Value → Shared → Prop} {A : Around} {E : Value → Shared → Prop} (hn : s.heap.Ns L m) (hv : m y = some v) (h : Q v s)
    (hk : sc.kind = .function := by rfl) (hl : (envOfC nm sc L a cdv).kindOf y = some .local := by rfl) (hd : (y == ("__debug__" : Str)) = false := by decide) : wpAny M A (eval (.Name y pos) (envOfC nm sc L a cdv)) Q E s := by
  refine wpAny_Name (wpAny_loadName_local hk hl hn hv h) hd
/-- behind __init__ -/
structure TlEnd (h h' : Heap) (x C dx t1 : Addr) (v : Value) : Prop where
  rest : ∀ b o, b ≠ x → h.get? b = some o → h'.get? b = some o
  self : h'.get? x = some { cls := .ref C, data := .fields #[.ref t1, .none, .none, .none, .bool false, .none], dict := some dx }
  late : h.objs.size ≤ dx
  apart : dx ≠ x
  fld : h'.Ns1 dx (fun y => if y = "pair" then some v else none)
/-- behind the making -/
structure TlMade (h h' : Heap) (e C d : Addr) (v : Value) : Prop where
  rest : ∀ b o, h.get? b = some o → h'.get? b = some o
  new : h.objs.size ≤ e
  self : ∃ oe vs, h'.get? e = some oe ∧ oe.cls = .ref C ∧ oe.dict = some d ∧ oe.data = .fields vs ∧ vs[1]? = some .none
  late : h.objs.size ≤ d
  apart : d ≠ e
  fld : h'.Ns1 d (fun y => if y = "pair" then some v else none)
variable {prog : Program} {w : World} {A : Around} {E : Value → Shared → Prop} {R : Result → Shared → Prop} {s : Shared} {K : Frag} {mg : Str → Option Value} {C f : Addr}
theorem tl_init (T : TL K mg C f) {x t0 : Addr} {v : Value} (X : K.In s.heap) (lim : s.heap.NoLimit) (hx : s.heap.get? x = some (excO C t0)) (room : A.depth < recursionLimit)
    (fin : ∀ h' tk dx, TlEnd s.heap h' x C dx t0 v → R (.ok (.ret .none)) { s with heap := h', toks := tk }) : codeAny (model prog w) A (.call (.ref f) ⟨[.ref x, v], []⟩) R s := by
  obtain ⟨oc, od, kV, doc, pm, an, cdv, ct, osl, p1, p2, q1, q2, q3, q4, ho, hcd⟩ := T.fn
  obtain ⟨nm, q, N, bs, bm, sn, sub, ab, col, dd, m0, m1, m2, m3, m5, hC, hbm⟩ := T.ob
  have cd : clsIn K C = some { name := nm, bases := bs, mro := .ref C :: bm, ns := N, qualname := q, hasDict := true, slotNames := sn, subclasses := sub, abstract := ab, collection := col, hasDel := false } := by
    unfold clsIn
    rw [hC] <;> rfl
  refine Att.call_fn (binds := [("self", .ref x), ("pair", v)]) X lim ho hcd room (BindsTo.of_eq (by first | rfl | with_unfolding_all rfl)) (by first | rfl | decide | with_unfolding_all rfl) (fun s₁ ic => ?_) rfl rfl rfl
  obtain ⟨h₁, tk₁, rfl⟩ := ic.toInCall.same
  have keep := ic.toInCall.keep
  have ns := ic.toInCall.ns
  have X₁ : K.In h₁ := X.keeps keep
  have hx₁ := keep _ _ hx
  show wpAny _ _ (execs _ _) _ _ _
  refine wpAny_execs_cons (plainObj_wpAny_Assign_Attribute (ld_param (v := v) ns (by first | rfl | with_unfolding_all rfl | kernel_rfl) (ld_param (v := .ref x) ns (by first | rfl | with_unfolding_all rfl | kernel_rfl) ?_)))
  refine set_plain X₁ (ox := excO C t0) (od := none) ⟨hx₁, rfl, rfl, trivial⟩ T.f_set (exc_osa X₁ hx₁ cd (show refsVE (.ref C :: bm) = true from hbm) rfl T.f_fld (fun h₃ tk₃ dx k₃ dn dne hx₃ hn₃ => ?_))
  have lt : s.heap.objs.size < h₁.objs.size := ns.lt
  show wpAny _ _ (execs _ _) _ _ _
  exact wpAny_execs_nil (fin h₃ tk₃ dx ⟨fun b o hb e => k₃ b o hb (keep b o e), hx₃, Nat.le_of_lt (Nat.lt_of_lt_of_le lt dn), dne, hn₃⟩)
theorem tl_made (T : TL K mg C f) {v : Value} (X : K.In s.heap) (lim : s.heap.NoLimit) (room : A.depth + 1 < recursionLimit) (fin : ∀ h' tk e d, TlMade s.heap h' e C d v → R (.ok (.ret (.ref e))) { s with heap := h', toks := tk }) :
    codeAny (model prog w) A (.call (.ref C) ⟨[v], []⟩) R s := by
  obtain ⟨nm, q, N, bs, bm, sn, sub, ab, col, dd, m0, m1, m2, m3, m5, hC, hbm⟩ := T.ob
  obtain ⟨hp, g, dr, tk, os⟩ := s
  have keep : ∀ b o, hp.get? b = some o → ((hp.push (kdv_tup [v])).push (excO C hp.objs.size)).get? b = some o := fun b o e => Heap.get?_push_of_some _ (Heap.get?_push_of_some _ e)
  have at_ : ((hp.push (kdv_tup [v])).push (excO C hp.objs.size)).get? (hp.objs.size + 1) = some (excO C hp.objs.size) := by heap_get
  refine call_own F.excBase_ValueError (fun Y => refsVE_contains Y bm hbm) (X _ _ hC) (looks_findIn X T.f_ini) (fun self => bind_fn X self T.tyF) (sz_one v) ?_
  refine tl_init (s := ⟨(hp.push (kdv_tup [v])).push (excO C hp.objs.size), g, dr, tk, os⟩) T (X.keeps keep) (lim.keeps keep) at_ (show A.depth + 1 < recursionLimit from room) fun h' tk' dx ⟨k', hx, dn, dne, hns⟩ => ?_
  have old : ∀ b o, hp.get? b = some o → h'.get? b = some o := fun b o e => k' b o (Nat.ne_of_lt (Nat.lt_succ_of_lt (Heap.lt_size e))) (keep b o e)
  have z : hp.objs.size + 1 + 1 ≤ dx := by
    first
      | (simpa only [Heap.size_push] using dn)
      | exact dn
      | (have q := dn; rw [Heap.size_push, Heap.size_push] at q; exact q)
  refine ⟨rfl, fin h' tk' (hp.objs.size + 1) dx ⟨old, Nat.le_succ _, ⟨_, _, hx, rfl, rfl, rfl, rfl⟩, Nat.le_trans (Nat.le_trans (Nat.le_succ _) (Nat.le_succ _)) z, dne, hns⟩⟩
end
theorem rel_bound {v : V} {v' : Value} (r : RelV v v') (g : Str) : RelO (List.lookup g [(("pair" : Str), v)]) (if g = "pair" then some v' else none) := by
  by_cases h : g = "pair"
  · subst h
    rw [if_pos rfl, show List.lookup ("pair" : Str) [(("pair" : Str), v)] = some v by simp [List.lookup]]
    exact r
  · rw [if_neg h, show List.lookup g [(("pair" : Str), v)] = none by
      have n : (g == ("pair" : Str)) = false := by simpa using h
      simp [List.lookup, n]]
    trivial
section
variable {X : Cx} {E : XK} {C f : Addr} {k : Nat} {a e : Expr} {es : List Expr} {Fa : Rho → M Sv} {Fs Fk : Rho → M (List Sv)} {p pos pos2 : Pos}
def mkTl (C : Addr) (ta : TA) : L2.St → Hp → XK → Prop := fun σ H Q => ta σ H fun vs H1 => ∃ v, vs = [v] ∧ ∀ d, H1 d = none → Q (.ref C) (some d) (upd H1 d (.xd [(("pair" : Str), v)]))
theorem pmk_tl {ta : TA} (T : TL X.K X.mg C f) (hr : Room k X.A) (ha : PA X [a] ta) (hg : Gl X "Conflict" := by rfl) (he : starEach (a :: []) X.env = (false, eval a X.env) :: starEach [] X.env := by rfl) (hpl : (backTo pos (starEach [] X.env)).any (·.1) = false := by rfl) :
    PMk X (.Call (.Name "Conflict" p) [a] [] pos) (mkTl C ta) := by
  intro pins s σ H Q I h
  refine wpAny_Call_Name_kw (ld_glob I hg T.gC (PySem.W.callWith_K (h₀ := X.base) I.ok.mod.kin T.kp (thn (ha.run pos pins s σ H _ I h) fun us s1 ⟨vs, H1, I1, r1, v, ev, q1⟩ => ⟨I1.kIn, ?_⟩) he hpl))
  subst ev
  obtain ⟨u, rfl, rv⟩ := vals1 r1
  show wpAny _ _ (call (.ref C) [u]) _ _ _
  have lim := I1.nolimit
  obtain ⟨hp, g, dr, tk, os⟩ := s1
  refine wpAny_call (tl_made T I1.kIn lim (by have := hr.dp; omega) fun h' tk' e d mk => ?_)
  show MkP X pins σ Q (.ref e) ⟨h', g, dr, tk', os⟩
  obtain ⟨oe, fv, hoe, hc, hd, hdat, h1⟩ := mk.self
  obtain ⟨G, g1, g2⟩ := restrict h' fun b => decide (b ≠ e)
  have gk : ∀ b, b ≠ e → G.get? b = h'.get? b := fun b hb => g1 b (decide_eq_true hb)
  have ge : G.get? e = none := g2 e (by simp)
  have old : ∀ b o, hp.get? b = some o → G.get? b = some o := fun b o q => (gk b (Nat.ne_of_lt (Nat.lt_of_lt_of_le (Heap.lt_size q) mk.new))).trans (mk.rest b o q)
  have ob : ObjOk X.prog X.w (upd H1 d (.xd [(("pair" : Str), v)])) G d (.xd [(("pair" : Str), v)]) := ⟨_, mk.fld.at (fun o q => (gk d mk.apart).trans q), fun g => rel_bound rv g⟩
  have J : Inv X pins σ (upd H1 d (.xd [(("pair" : Str), v)])) ⟨G, g, dr, tk', os⟩ := I1.laid (t' := tk') old mk.late ob
  have none_e : upd H1 d (.xd [(("pair" : Str), v)]) e = none := by
    rw [upd_ne (Ne.symm mk.apart)]
    exact I1.hok.fresh mk.new
  refine ⟨e, oe, fv, ⟨G, g, dr, tk', os⟩, _, .ref C, some d, rfl, J, fun b o q => ?_, ge, hoe, ⟨hc, hd⟩, hdat, h1, none_e, rfl, I1.bare, raises_own T.sub T.tyC, q1 d (I1.hok.fresh mk.late)⟩
  have q0 : G.get? b = some o := q
  have hb : b ≠ e := fun z => by
    rw [z, ge] at q0
    cases q0
  exact (gk b hb).symm.trans q0
def gRaise (Fa : Rho → M Sv) (ρ : Rho) : M Out := (Fa ρ).bind fun s => M.thr ⟨"Conflict", some ("pair", s)⟩
theorem s_raise (T : TL X.K X.mg C f) (hc : X.calm = true) (hr : Room k X.A) (tk : Takes X (fun cls d _ H => E cls d H)) (ha : PX X E a Fa) (hg : Gl X "Conflict" := by rfl) (he : starEach (a :: []) X.env = (false, eval a X.env) :: starEach [] X.env := by rfl) (hpl : (backTo pos (starEach [] X.env)).any (·.1) = false := by rfl) :
    PSX X E (.Raise (some (.Call (.Name "Conflict" p) [a] [] pos)) none pos2) (gRaise Fa) := ps_weak (ps_raise hc tk (pmk_tl T hr (pa_cons ha pa_nil he) hg he hpl)) fun D σ H ⟨W, ρ, μ, r, h, e, q⟩ => by
  refine tX_bind h e q fun v s W1 H1 μ1 g1 h1 rs e1 q1 => ⟨v, rfl, fun d hd => ?_⟩
  cases e1
  exact q1 W1 _ (.ref C) (some d) ((Grow.refl _ _ _).out hd fun b hb => upd_ne hb) (h1.rel.lay hd) ⟨⟨C, T.nC, rfl⟩, d, v, rfl, upd_same, rs⟩
end
end Err_Conflict
namespace Err_NoLast
/-! ### an error of the program's own, with one field -/
section
open PySem.W PySem.Calls PySem.HandSPX
def tlArgs (a b : Pos) : Arguments := { vararg := none, kwarg := none, posonlyargs := [], kwonlyargs := [], kw_defaults := [], defaults := [], args := [{ arg := "self", annotation := none, pos := a }, { arg := "mark", annotation := none, pos := b }] }
def tlBody (a b c d : Pos) : List Stmt := [.Assign [.Attribute (.Name "self" a) "mark" b] (.Name "mark" c) d]
def tlScope : Scope := { isGenerator := false, isCoroutine := false, more := [], kind := .function, names := [(PySem.Str.ofString "self", .local), (PySem.Str.ofString "mark", .local)] }
/-- what stands of the class, at C, its __init__ at f -/
structure TL (K : Frag) (mg : Str → Option Value) (C f : Addr) : Prop where
  nC : nsIn K mainGlobals "NoLast" = some (some (.ref C))
  gC : mg "NoLast" = some (.ref C)
  ob : ∃ nm q N bs bm sn sub ab col dd m0 m1 m2 m3 m5, K.lookup C = some (excClassObj nm q C N bs bm true sn sub ab col dd m0 m1 m2 m3 m5 "ValueError.__new__") ∧ refsVE bm = true
  f_set : findIn K (.ref C) "__setattr__" = some (some (.builtin "object.__setattr__"))
  f_get : findIn K (.ref C) "__getattribute__" = some (some (.builtin "BaseException.__getattribute__"))
  f_at : findIn K (.ref C) "__getattr__" = some none
  f_fld : findIn K (.ref C) "mark" = some none
  f_ini : findIn K (.ref C) "__init__" = some (some (.ref f))
  f_cls : findIn K (.ref C) "__class__" = some (some (.builtin "object.__class__"))
  s_get : specialIn K (.builtin "object.__class__") "__get__" = some (some (.builtin "getset_descriptor.__get__"))
  tk : takesIn K (.builtin "object.__class__") = some true
  mro : mroIn K C (.type "object") = some true
  tyF : typeIn K (.ref f) = some (.type "function")
  kp : keepIn K (.ref C) = true
  sub : subIn K (.ref C) (.type "BaseException") = some true
  tyC : typeIn K (.ref C) = some (.type "type")
  dct : hasDictIn K C = true
  fn : ∃ (oc : Value) (od : Option Addr) (kV doc pm : Value) (an : Option Addr) (cdv ct : Value) (osl : Array (Option Value)) (p1 p2 q1 q2 q3 q4 : Pos),
    K.lookup f = some ⟨oc, od, .func (fnOf "__init__" "NoLast.__init__" (tlArgs p1 p2) (tlBody q1 q2 q3 q4) tlScope .none kV doc pm an cdv ct), osl⟩ ∧ codeIn K cdv "NoLast.__init__" = true
theorem sz_one (v : Value) : [v].length ≤ sizeLine := by
  rw [sizeLine_eq]
  show 1 ≤ 16777216
  decide
theorem ld_param {M : Model} {s : Shared} {nm : Str} {sc : Scope} {L a : Addr} {cdv : Value} {m : Str → Option Value} {y : Str} {pos : Pos} {v : Value} {Q : Value → Shared → Prop} {A : Around} {E : Value → Shared → Prop} (hn : s.heap.Ns L m) (hv : m y = some v) (h : Q v s)
    (hk : sc.kind = .function := by rfl) (hl : (envOfC nm sc L a cdv).kindOf y = some .local := by rfl) (hd : (y == ("__debug__" : Str)) = false := by decide) : wpAny M A (eval (.Name y pos) (envOfC nm sc L a cdv)) Q E s := by
  refine wpAny_Name (wpAny_loadName_local hk hl hn hv h) hd
/-- behind __init__ -/
structure TlEnd (h h' : Heap) (x C dx t1 : Addr) (v : Value) : Prop where
  rest : ∀ b o, b ≠ x → h.get? b = some o → h'.get? b = some o
  self : h'.get? x = some { cls := .ref C, data := .fields #[.ref t1, .none, .none, .none, .bool false, .none], dict := some dx }
  late : h.objs.size ≤ dx
  apart : dx ≠ x
  fld : h'.Ns1 dx (fun y => if y = "mark" then some v else none)
/-- behind the making -/
structure TlMade (h h' : Heap) (e C d : Addr) (v : Value) : Prop where
  rest : ∀ b o, h.get? b = some o → h'.get? b = some o
  new : h.objs.size ≤ e
  self : ∃ oe vs, h'.get? e = some oe ∧ oe.cls = .ref C ∧ oe.dict = some d ∧ oe.data = .fields vs ∧ vs[1]? = some .none
  late : h.objs.size ≤ d
  apart : d ≠ e
  fld : h'.Ns1 d (fun y => if y = "mark" then some v else none)
variable {prog : Program} {w : World} {A : Around} {E : Value → Shared → Prop} {R : Result → Shared → Prop} {s : Shared} {K : Frag} {mg : Str → Option Value} {C f : Addr}
theorem tl_init (T : TL K mg C f) {x t0 : Addr} {v : Value} (X : K.In s.heap) (lim : s.heap.NoLimit) (hx : s.heap.get? x = some (excO C t0)) (room : A.depth < recursionLimit)
    (fin : ∀ h' tk dx, TlEnd s.heap h' x C dx t0 v → R (.ok (.ret .none)) { s with heap := h', toks := tk }) : codeAny (model prog w) A (.call (.ref f) ⟨[.ref x, v], []⟩) R s := by
  obtain ⟨oc, od, kV, doc, pm, an, cdv, ct, osl, p1, p2, q1, q2, q3, q4, ho, hcd⟩ := T.fn
  obtain ⟨nm, q, N, bs, bm, sn, sub, ab, col, dd, m0, m1, m2, m3, m5, hC, hbm⟩ := T.ob
  have cd : clsIn K C = some { name := nm, bases := bs, mro := .ref C :: bm, ns := N, qualname := q, hasDict := true, slotNames := sn, subclasses := sub, abstract := ab, collection := col, hasDel := false } := by
    unfold clsIn
    rw [hC] <;> rfl
  refine Att.call_fn (binds := [("self", .ref x), ("mark", v)]) X lim ho hcd room (BindsTo.of_eq (by first | rfl | with_unfolding_all rfl)) (by first | rfl | decide | with_unfolding_all rfl) (fun s₁ ic => ?_) rfl rfl rfl
  obtain ⟨h₁, tk₁, rfl⟩ := ic.toInCall.same
  have keep := ic.toInCall.keep
  have ns := ic.toInCall.ns
  have X₁ : K.In h₁ := X.keeps keep
  have hx₁ := keep _ _ hx
  show wpAny _ _ (execs _ _) _ _ _
  refine wpAny_execs_cons (plainObj_wpAny_Assign_Attribute (ld_param (v := v) ns (by first | rfl | with_unfolding_all rfl | kernel_rfl) (ld_param (v := .ref x) ns (by first | rfl | with_unfolding_all rfl | kernel_rfl) ?_)))
  refine set_plain X₁ (ox := excO C t0) (od := none) ⟨hx₁, rfl, rfl, trivial⟩ T.f_set (exc_osa X₁ hx₁ cd (show refsVE (.ref C :: bm) = true from hbm) rfl T.f_fld (fun h₃ tk₃ dx k₃ dn dne hx₃ hn₃ => ?_))
  have lt : s.heap.objs.size < h₁.objs.size := ns.lt
  show wpAny _ _ (execs _ _) _ _ _
  exact wpAny_execs_nil (fin h₃ tk₃ dx ⟨fun b o hb e => k₃ b o hb (keep b o e), hx₃, Nat.le_of_lt (Nat.lt_of_lt_of_le lt dn), dne, hn₃⟩)
theorem tl_made (T : TL K mg C f) {v : Value} (X : K.In s.heap) (lim : s.heap.NoLimit) (room : A.depth + 1 < recursionLimit) (fin : ∀ h' tk e d, TlMade s.heap h' e C d v → R (.ok (.ret (.ref e))) { s with heap := h', toks := tk }) :
    codeAny (model prog w) A (.call (.ref C) ⟨[v], []⟩) R s := by
  obtain ⟨nm, q, N, bs, bm, sn, sub, ab, col, dd, m0, m1, m2, m3, m5, hC, hbm⟩ := T.ob
  obtain ⟨hp, g, dr, tk, os⟩ := s
  have keep : ∀ b o, hp.get? b = some o → ((hp.push (kdv_tup [v])).push (excO C hp.objs.size)).get? b = some o := fun b o e => Heap.get?_push_of_some _ (Heap.get?_push_of_some _ e)
  have at_ : ((hp.push (kdv_tup [v])).push (excO C hp.objs.size)).get? (hp.objs.size + 1) = some (excO C hp.objs.size) := by heap_get
  refine call_own F.excBase_ValueError (fun Y => refsVE_contains Y bm hbm) (X _ _ hC) (looks_findIn X T.f_ini) (fun self => bind_fn X self T.tyF) (sz_one v) ?_
  refine tl_init (s := ⟨(hp.push (kdv_tup [v])).push (excO C hp.objs.size), g, dr, tk, os⟩) T (X.keeps keep) (lim.keeps keep) at_ (show A.depth + 1 < recursionLimit from room) fun h' tk' dx ⟨k', hx, dn, dne, hns⟩ => ?_
  have old : ∀ b o, hp.get? b = some o → h'.get? b = some o := fun b o e => k' b o (Nat.ne_of_lt (Nat.lt_succ_of_lt (Heap.lt_size e))) (keep b o e)
  have z : hp.objs.size + 1 + 1 ≤ dx := by
    first
      | (simpa only [Heap.size_push] using dn)
      | exact dn
      | (have q := dn; rw [Heap.size_push, Heap.size_push] at q; exact q)
  refine ⟨rfl, fin h' tk' (hp.objs.size + 1) dx ⟨old, Nat.le_succ _, ⟨_, _, hx, rfl, rfl, rfl, rfl⟩, Nat.le_trans (Nat.le_trans (Nat.le_succ _) (Nat.le_succ _)) z, dne, hns⟩⟩
end
theorem rel_bound {v : V} {v' : Value} (r : RelV v v') (g : Str) : RelO (List.lookup g [(("mark" : Str), v)]) (if g = "mark" then some v' else none) := by
  by_cases h : g = "mark"
  · subst h
    rw [if_pos rfl, show List.lookup ("mark" : Str) [(("mark" : Str), v)] = some v by simp [List.lookup]]
    exact r
  · rw [if_neg h, show List.lookup g [(("mark" : Str), v)] = none by
      have n : (g == ("mark" : Str)) = false := by simpa using h
      simp [List.lookup, n]]
    trivial
section
variable {X : Cx} {E : XK} {C f : Addr} {k : Nat} {a e : Expr} {es : List Expr} {Fa : Rho → M Sv} {Fs Fk : Rho → M (List Sv)} {p pos pos2 : Pos}
def mkTl (C : Addr) (ta : TA) : L2.St → Hp → XK → Prop := fun σ H Q => ta σ H fun vs H1 => ∃ v, vs = [v] ∧ ∀ d, H1 d = none → Q (.ref C) (some d) (upd H1 d (.xd [(("mark" : Str), v)]))
theorem pmk_tl {ta : TA} (T : TL X.K X.mg C f) (hr : Room k X.A) (ha : PA X [a] ta) (hg : Gl X "NoLast" := by rfl) (he : starEach (a :: []) X.env = (false, eval a X.env) :: starEach [] X.env := by rfl) (hpl : (backTo pos (starEach [] X.env)).any (·.1) = false := by rfl) :
    PMk X (.Call (.Name "NoLast" p) [a] [] pos) (mkTl C ta) := by
  intro pins s σ H Q I h
  refine wpAny_Call_Name_kw (ld_glob I hg T.gC (PySem.W.callWith_K (h₀ := X.base) I.ok.mod.kin T.kp (thn (ha.run pos pins s σ H _ I h) fun us s1 ⟨vs, H1, I1, r1, v, ev, q1⟩ => ⟨I1.kIn, ?_⟩) he hpl))
  subst ev
  obtain ⟨u, rfl, rv⟩ := vals1 r1
  show wpAny _ _ (call (.ref C) [u]) _ _ _
  have lim := I1.nolimit
  obtain ⟨hp, g, dr, tk, os⟩ := s1
  refine wpAny_call (tl_made T I1.kIn lim (by have := hr.dp; omega) fun h' tk' e d mk => ?_)
  show MkP X pins σ Q (.ref e) ⟨h', g, dr, tk', os⟩
  obtain ⟨oe, fv, hoe, hc, hd, hdat, h1⟩ := mk.self
  obtain ⟨G, g1, g2⟩ := restrict h' fun b => decide (b ≠ e)
  have gk : ∀ b, b ≠ e → G.get? b = h'.get? b := fun b hb => g1 b (decide_eq_true hb)
  have ge : G.get? e = none := g2 e (by simp)
  have old : ∀ b o, hp.get? b = some o → G.get? b = some o := fun b o q => (gk b (Nat.ne_of_lt (Nat.lt_of_lt_of_le (Heap.lt_size q) mk.new))).trans (mk.rest b o q)
  have ob : ObjOk X.prog X.w (upd H1 d (.xd [(("mark" : Str), v)])) G d (.xd [(("mark" : Str), v)]) := ⟨_, mk.fld.at (fun o q => (gk d mk.apart).trans q), fun g => rel_bound rv g⟩
  have J : Inv X pins σ (upd H1 d (.xd [(("mark" : Str), v)])) ⟨G, g, dr, tk', os⟩ := I1.laid (t' := tk') old mk.late ob
  have none_e : upd H1 d (.xd [(("mark" : Str), v)]) e = none := by
    rw [upd_ne (Ne.symm mk.apart)]
    exact I1.hok.fresh mk.new
  refine ⟨e, oe, fv, ⟨G, g, dr, tk', os⟩, _, .ref C, some d, rfl, J, fun b o q => ?_, ge, hoe, ⟨hc, hd⟩, hdat, h1, none_e, rfl, I1.bare, raises_own T.sub T.tyC, q1 d (I1.hok.fresh mk.late)⟩
  have q0 : G.get? b = some o := q
  have hb : b ≠ e := fun z => by
    rw [z, ge] at q0
    cases q0
  exact (gk b hb).symm.trans q0
def gRaise (Fa : Rho → M Sv) (ρ : Rho) : M Out := (Fa ρ).bind fun s => M.thr ⟨"NoLast", some ("mark", s)⟩
theorem s_raise (T : TL X.K X.mg C f) (hc : X.calm = true) (hr : Room k X.A) (tk : Takes X (fun cls d _ H => E cls d H)) (ha : PX X E a Fa) (hg : Gl X "NoLast" := by rfl) (he : starEach (a :: []) X.env = (false, eval a X.env) :: starEach [] X.env := by rfl) (hpl : (backTo pos (starEach [] X.env)).any (·.1) = false := by rfl) :
    PSX X E (.Raise (some (.Call (.Name "NoLast" p) [a] [] pos)) none pos2) (gRaise Fa) := ps_weak (ps_raise hc tk (pmk_tl T hr (pa_cons ha pa_nil he) hg he hpl)) fun D σ H ⟨W, ρ, μ, r, h, e, q⟩ => by
  refine tX_bind h e q fun v s W1 H1 μ1 g1 h1 rs e1 q1 => ⟨v, rfl, fun d hd => ?_⟩
  cases e1
  exact q1 W1 _ (.ref C) (some d) ((Grow.refl _ _ _).out hd fun b hb => upd_ne hb) (h1.rel.lay hd) ⟨⟨C, T.nC, rfl⟩, d, v, rfl, upd_same, rs⟩
end
end Err_NoLast
end Pf

set_option maxHeartbeats 1000000
namespace Pf
open PySem PySem.Spec PyProof.Rows L2
section
variable {l l1 : En} {Fa : Rho → M Sv} {ta : S PyData}
/-- raise of an error with a field, wherever it stands -/
theorem r_raiseP {β : Type} {P : Post Out β} {C f : Str} (h : Jd l Fa ta (pV l1)) {G : Rho → M Out} (hG : G = fun ρ => (Fa ρ).bind fun s => M.thr ⟨C, some (f, s)⟩) : Jd l G (ta.bind fun d => S.thr ⟨C, some (f, d)⟩) P := fun k rest ρ μ e => by
  subst hG
  refine (h k rest ρ μ e).bind fun k1 μ1 a da ⟨z, e1⟩ => ?_
  subst z
  intro r k' q
  cases q
  obtain ⟨g, hg⟩ := e1.pre
  exact ⟨g, by rw [hg]; rfl⟩
end
end Pf

set_option maxHeartbeats 1000000
namespace Pf
open PySem PySem.Spec PyProof.Rows L2
noncomputable def T_is_number (a0 : PyData) : S PyData :=
  (((S.ret a0).bind fun x1 => S.lift (oIsi "int" x1)).bind fun x5 => (S.lift (toB x5)).bind fun z6 => dAnd z6 (((S.ret a0).bind fun x2 => S.lift (oIsi "bool" x2)).bind fun x3 => (S.lift (toB x3)).bind fun b4 => S.ret (PyData.bool (!b4))))
noncomputable abbrev F_is_number : List Sv → M Sv := liftF (u1 T_is_number)
noncomputable def G_is_number : Rho → M Out :=
  (gRet (andV (isiV "int" (slot 0)) (notV (isiV "bool" (slot 0)))))
theorem tt_is_number (a0 : PyData) : Jd [some (.im a0)] G_is_number (T_is_number a0) pR := by
  unfold T_is_number G_is_number
  exact (r_ret (e_and (e_isi "int" (e_slot 0 rfl)) (e_not (e_isi "bool" (e_slot 0 rfl)))))
theorem same_is_number (ss : List Sv) (μ : Mu) (r : Res Sv) (hs : ss.length = 1) (wf : Wf μ) (e : F_is_number ss μ = some r) : ∃ r', G_is_number (ini 1 ss) μ = some r' ∧ Agree μ.length r r' :=
  same_T (n := 1) (fun ds h => by
    obtain ⟨a0, rfl⟩ := len1 h
    exact r_e (tt_is_number a0)) ss μ r hs wf e
noncomputable def T_is_number_from_to (a0 a1 a2 : PyData) : S PyData :=
  ((((S.ret a0).bind fun x1 => (S.ret []).bind fun as2 => S.ret (x1 :: as2)).bind (u1 T_is_number)).bind fun x7 => (S.lift (toB x7)).bind fun z8 => dAnd z8 ((S.ret a1).bind fun x3 => (S.ret a0).bind fun x4 => (S.lift (cLe x3 x4)).bind fun z5 => vAnd z5 ((S.ret a2).bind fun x6 => S.lift (asB2 (cLe x4 x6)))))
noncomputable abbrev F_is_number_from_to : List Sv → M Sv := liftF (u3 T_is_number_from_to)
noncomputable def G_is_number_from_to : Rho → M Out :=
  (gRet (andV (callF F_is_number 1 (argC (slot 0) argN)) (chain pLe pLe (slot 1) (slot 0) (slot 2))))
theorem tt_is_number_from_to (a0 a1 a2 : PyData) : Jd [some (.im a0), some (.im a1), some (.im a2)] G_is_number_from_to (T_is_number_from_to a0 a1 a2) pR := by
  unfold T_is_number_from_to G_is_number_from_to
  exact (r_ret (e_and (e_call (a_cons' (e_slot 0 rfl) a_nil')) (e_chain op_cmp' op_cmp' (e_slot 1 rfl) (e_slot 0 rfl) (e_w (e_slot 2 rfl)))))
theorem same_is_number_from_to (ss : List Sv) (μ : Mu) (r : Res Sv) (hs : ss.length = 3) (wf : Wf μ) (e : F_is_number_from_to ss μ = some r) : ∃ r', G_is_number_from_to (ini 3 ss) μ = some r' ∧ Agree μ.length r r' :=
  same_T (n := 3) (fun ds h => by
    obtain ⟨a0, a1, a2, rfl⟩ := len3 h
    exact r_e (tt_is_number_from_to a0 a1 a2)) ss μ r hs wf e
noncomputable def T_is_table (a0 a1 : PyData) : S PyData :=
  ((((((S.ret a1).bind fun x1 => S.lift (oIsi "tuple" x1)).bind fun x2 => S.lift (toB x2)).bind fun z3 => S.ret (!z3)).bind fun z10 => bOr z10 (((S.ret a1).bind fun x4 => S.lift (oLen x4)).bind fun x8 => (((S.ret a0).bind fun x5 => S.lift (oLen x5)).bind fun x6 => (S.ret (PyData.int 1)).bind fun x7 => S.lift (oAdd x6 x7)).bind fun x9 => S.lift (cNe x8 x9))).bind fun z11 => if z11 = true then (S.ret (PyData.bool false)) else
  (((((((S.ret a1).bind fun x12 => S.lift (seqD x12)).bind fun ds15 => (S.lift (szD ds15)).bind fun _ => (S.mapM (fun d13 => S.noEx ((S.ret d13).bind fun s14 => (((S.ret s14).bind fun x21 => ((S.ret (PyData.int 0)).bind fun x19 => ((S.ret (PyData.int 2000000000)).bind fun x17 => (S.ret []).bind fun as18 => S.ret (x17 :: as18)).bind fun as20 => S.ret (x19 :: as20)).bind fun as22 => S.ret (x21 :: as22)).bind (u3 T_is_number_from_to)))) ds15).bind fun xs16 => S.ret (PyData.list xs16)).bind fun x23 => S.lift (oAll x23)).bind fun x24 => S.lift (toB x24)).bind fun z25 => S.ret (!z25)).bind fun z26 => if z26 = true then (S.ret (PyData.bool false)) else
  ((((S.ret a0).bind fun x27 => S.lift ((seqD x27).map enuD)).bind fun ds50 => (S.lift (szD ds50)).bind fun _ => (S.mapM (fun d28 => S.noEx (((S.lift (un2 d28)).bind fun p29 => (S.ret p29.1).bind fun s30 => ((S.lift (un2 p29.2)).bind fun p33 => (S.ret p33.1).bind fun s34 => (S.ret p33.2).bind fun s36 => S.ret (s34, s36)).bind fun s32 => S.ret (s30, s32)).bind fun s44 => (((((S.ret a1).bind fun x59 => ((S.ret s44.1).bind fun x57 => (S.ret (PyData.int 1)).bind fun x58 => S.lift (oAdd x57 x58)).bind fun x60 => S.lift (oIx x59 x60)).bind fun x63 => ((S.ret a1).bind fun x61 => (S.ret s44.2.1).bind fun x62 => S.lift (oIx x61 x62)).bind fun x64 => S.lift (oSub x63 x64)).bind fun x65 => S.lift (oAbs x65)).bind fun x66 => (S.ret s44.2.2).bind fun x67 => S.lift (asB2 (cLe x66 x67))))) ds50).bind fun xs51 => S.ret (PyData.list xs51)).bind fun x68 => S.lift (oAll x68))))
noncomputable abbrev F_is_table : List Sv → M Sv := liftF (u2 T_is_table)
noncomputable def G_is_table : Rho → M Out :=
  (gSeq (gIf (orT (notT (tst (isiV "tuple" (slot 1)))) (tst (bin pNe (callV bLen (argC (slot 1) argN)) (bin (pAdd false) (callV bLen (argC (slot 0) argN)) (con (.int 1))))))
  (gRet (con (.bool false)))
  gSkip)
  (gSeq (gIf (notT (tst (callV bAll (argC (lcV false [2] (seqV (slot 1)) (gNm 2) yes (callF F_is_number_from_to 3 (argC (slot 2) (argC (con (.int 0)) (argC (con (.int 2000000000)) argN))))) argN))))
  (gRet (con (.bool false)))
  gSkip)
  (gRet (callV bAll (argC (lcV false [3, 4, 5] (enuA (slot 0)) (gTp 2 (gsCons (gNm 3) (gsCons (gTp 2 (gsCons (gNm 4) (gsCons (gNm 5) gsNil))) gsNil))) yes (bin pLe (callV bAbs (argC (bin pSub (bin pIx (slot 1) (bin (pAdd false) (slot 3) (con (.int 1)))) (bin pIx (slot 1) (slot 4))) argN)) (slot 5))) argN)))))
theorem tt_is_table (a0 a1 : PyData) : Jd [some (.im a0), some (.im a1), none, none, none, none] G_is_table (T_is_table a0 a1) pR := by
  unfold T_is_table G_is_table
  exact (r_ifR (u_or (u_not (u_val (e_isi "tuple" (e_slot 1 rfl)))) (u_bin op_eqn' (e_bl1 bl_len (e_w (e_slot 1 rfl))) (e_w (e_bin op_add' (e_bl1 bl_len (e_w (e_slot 0 rfl))) (e_w (e_con (PyData.int 1))))))) (r_ret (e_con (PyData.bool false)))
  (r_ifR (u_not (u_val (e_bl1 bl_all (e_w (e_lc (u := fun d13 => (S.ret d13)) (e' := fun (s : PyData) => [some (.im a0), some (.im a1), some (.im s), none, none, none]) [2] (w_seq (e_slot 1 rfl)) rfl (fun d13 => (tc_nm 2 d13 rfl)) (fun s14 => (e_call (a_cons' (e_slot 2 rfl) (a_cons' (e_con (PyData.int 0)) (a_cons' (e_con (.int 2000000000)) a_nil')))))))))) (r_ret (e_con (PyData.bool false)))
  (r_ret (e_bl1 bl_all (e_w (e_lc (u := fun d28 => ((S.lift (un2 d28)).bind fun p29 => (S.ret p29.1).bind fun s30 => ((S.lift (un2 p29.2)).bind fun p33 => (S.ret p33.1).bind fun s34 => (S.ret p33.2).bind fun s36 => S.ret (s34, s36)).bind fun s32 => S.ret (s30, s32))) (e' := fun (s : ((PyData) × (((PyData) × (PyData))))) => [some (.im a0), some (.im a1), none, some (.im s.1), some (.im s.2.1), some (.im s.2.2)]) [3, 4, 5] (w_enA (e_slot 0 rfl)) rfl (fun d28 => (tc_tp2 (e1 := fun (s30 : PyData) => [some (.im a0), some (.im a1), none, some (.im s30), none, none]) (e2 := fun (s30 : PyData) (s32 : ((PyData) × (PyData))) => [some (.im a0), some (.im a1), none, some (.im s30), some (.im s32.1), some (.im s32.2)]) (u1 := fun d31 => (S.ret d31)) (u2 := fun d38 => ((S.lift (un2 d38)).bind fun p39 => (S.ret p39.1).bind fun s40 => (S.ret p39.2).bind fun s42 => S.ret (s40, s42))) d28 (fun d31 => (tc_nm 3 d31 rfl)) (fun s30 d38 => (tc_tp2 (e1 := fun (s40 : PyData) => [some (.im a0), some (.im a1), none, some (.im s30), some (.im s40), none]) (e2 := fun (s40 : PyData) (s42 : PyData) => [some (.im a0), some (.im a1), none, some (.im s30), some (.im s40), some (.im s42)]) (u1 := fun d41 => (S.ret d41)) (u2 := fun d43 => (S.ret d43)) d38 (fun d41 => (tc_nm 4 d41 rfl)) (fun s40 d43 => (tc_nm 5 d43 rfl)))))) (fun s44 => (e_binB op_cmp' (e_bl1 bl_abs (e_w (e_bin op_sub' (e_bin op_ix' (e_slot 1 rfl) (e_w (e_bin op_add' (e_slot 3 rfl) (e_w (e_con (PyData.int 1)))))) (e_w (e_bin op_ix' (e_slot 1 rfl) (e_w (e_slot 4 rfl))))))) (e_w (e_slot 5 rfl))))))))))
theorem same_is_table (ss : List Sv) (μ : Mu) (r : Res Sv) (hs : ss.length = 2) (wf : Wf μ) (e : F_is_table ss μ = some r) : ∃ r', G_is_table (ini 6 ss) μ = some r' ∧ Agree μ.length r r' :=
  same_T (n := 2) (fun ds h => by
    obtain ⟨a0, a1, rfl⟩ := len2 h
    exact r_e (tt_is_table a0 a1)) ss μ r hs wf e
end Pf

set_option maxHeartbeats 1000000
namespace Pf
open PySem PySem.Spec PyProof.Rows L2
noncomputable def T_distances_of (a0 : PyData) : S PyData :=
  ((((((S.ret (PyData.int 0)).bind fun x1 => (S.ret []).bind fun as2 => S.ret (x1 :: as2)).bind fun as3 => S.ret (PyData.list as3)).bind fun x4 => (S.ret []).bind fun as5 => S.ret (x4 :: as5)).bind fun as6 => S.ret (PyData.list as6)).bind fun v7 =>
  ((((S.ret a0).bind fun x8 => S.lift (seqD x8)).bind fun ds17 => S.foldM (fun (s9 : PyData) d10 => ((S.lift (un2 d10)).bind fun p12 => (S.ret p12.1).bind fun s13 => (S.ret p12.2).bind fun s15 => S.ret (s13, s15)).bind fun t11 => (((((S.ret s9).bind fun x18 => (S.ret t11.1).bind fun x19 => S.lift (oIx x18 x19)).bind fun x20 => S.lift (seqD x20)).bind fun ds23 => (S.lift (szD ds23)).bind fun _ => (S.mapM (fun d21 => S.noEx ((S.ret d21).bind fun s22 => ((S.ret s22).bind fun x25 => (S.ret t11.2).bind fun x26 => S.lift (oAdd x25 x26)))) ds23).bind fun xs24 => S.ret (PyData.list xs24)).bind fun v27 =>
  (((((S.ret s9).bind fun x28 => S.lift ((seqD x28).map enuD)).bind fun ds36 => (S.lift (szD ds36)).bind fun _ => (S.mapM (fun d29 => S.noEx (((S.lift (un2 d29)).bind fun p30 => (S.ret p30.1).bind fun s31 => (S.ret p30.2).bind fun s33 => S.ret (s31, s33)).bind fun s35 => ((S.ret s35.2).bind fun x43 => ((((S.ret v27).bind fun x38 => (S.ret s35.1).bind fun x39 => S.lift (oIx x38 x39)).bind fun x40 => (S.ret []).bind fun as41 => S.ret (x40 :: as41)).bind fun as42 => S.ret (PyData.list as42)).bind fun x44 => S.lift (oAdd x43 x44)))) ds36).bind fun xs37 => S.ret (PyData.list xs37)).bind fun x53 => ((((S.ret v27).bind fun x48 => (((S.ret (PyData.int 0)).bind fun x45 => (S.ret []).bind fun as46 => S.ret (x45 :: as46)).bind fun as47 => S.ret (PyData.list as47)).bind fun x49 => S.lift (oAdd x48 x49)).bind fun x50 => (S.ret []).bind fun as51 => S.ret (x50 :: as51)).bind fun as52 => S.ret (PyData.list as52)).bind fun x54 => S.lift (oAdd x53 x54)).bind fun s56 => S.ret (s56)))) ds17 (v7)).bind fun v57 =>
  (S.ret v57)))
noncomputable abbrev F_distances_of : List Sv → M Sv := liftF (u1 T_distances_of)
noncomputable def G_distances_of : Rho → M Out :=
  (gSeq (gSet 1 (lstV false (argC (lstV false (argC (con (.int 0)) argN)) argN)))
  (gSeq (gFor (seqV (slot 0)) (gTp 2 (gsCons (gNm 2) (gsCons (gNm 3) gsNil)))
  (gSeq (gSet 4 (lcV false [5] (seqV (bin pIx (slot 1) (slot 2))) (gNm 5) yes (bin (pAdd false) (slot 5) (slot 3))))
  (gSet 1 (bin (pAdd false) (lcV false [6, 7] (enuA (slot 1)) (gTp 2 (gsCons (gNm 6) (gsCons (gNm 7) gsNil))) yes (bin (pAdd false) (slot 7) (lstV false (argC (bin pIx (slot 4) (slot 6)) argN)))) (lstV false (argC (bin (pAdd false) (slot 4) (lstV false (argC (con (.int 0)) argN))) argN))))))
  (gRet (slot 1))))
theorem tt_distances_of (a0 : PyData) : Jd [some (.im a0), none, none, none, none, none, none, none] G_distances_of (T_distances_of a0) pR := by
  unfold T_distances_of G_distances_of
  exact (r_seq (s_setI 1 (e_lst (a_cons' (e_lst (a_cons' (e_con (PyData.int 0)) a_nil')) a_nil'))) fun v7 =>
  (r_seq (s_for' (h := fun (s : PyData) => [some (.im a0), some (.im s), none, none, none, none, none, none]) (v7) (w_seq (e_slot 0 rfl)) (.keep (.keep (.drop (.drop (.drop (.drop (.drop (.drop .nil)))))))) (fun s9 d10 => b_tg (u := fun d10 => ((S.lift (un2 d10)).bind fun p12 => (S.ret p12.1).bind fun s13 => (S.ret p12.2).bind fun s15 => S.ret (s13, s15))) (e' := fun (t : ((PyData) × (PyData))) => [some (.im a0), some (.im s9), some (.im t.1), some (.im t.2), none, none, none, none]) d10 (tg_tp2 (e1 := fun (s13 : PyData) => [some (.im a0), some (.im s9), some (.im s13), none, none, none, none, none]) (e2 := fun (s13 : PyData) (s15 : PyData) => [some (.im a0), some (.im s9), some (.im s13), some (.im s15), none, none, none, none]) (u1 := fun d14 => (S.ret d14)) (u2 := fun d16 => (S.ret d16)) d10 (fun d14 => (tg_nm 2 d14)) (fun s13 d16 => (tg_nm 3 d16))) fun t11 => ((r_seq (s_setI 4 (e_lc (u := fun d21 => (S.ret d21)) (e' := fun (s : PyData) => [some (.im a0), some (.im s9), some (.im t11.1), some (.im t11.2), none, some (.im s), none, none]) [5] (w_seq (e_bin op_ix' (e_slot 1 rfl) (e_w (e_slot 2 rfl)))) rfl (fun d21 => (tc_nm 5 d21 rfl)) (fun s22 => (e_bin op_add' (e_slot 5 rfl) (e_w (e_slot 3 rfl)))))) fun v27 =>
  ((n_end (fun (s56 : PyData) => (s56)) (s_setI 1 (e_bin op_add' (e_lc (u := fun d29 => ((S.lift (un2 d29)).bind fun p30 => (S.ret p30.1).bind fun s31 => (S.ret p30.2).bind fun s33 => S.ret (s31, s33))) (e' := fun (s : ((PyData) × (PyData))) => [some (.im a0), some (.im s9), some (.im t11.1), some (.im t11.2), some (.im v27), none, some (.im s.1), some (.im s.2)]) [6, 7] (w_enA (e_slot 1 rfl)) rfl (fun d29 => (tc_tp2 (e1 := fun (s31 : PyData) => [some (.im a0), some (.im s9), some (.im t11.1), some (.im t11.2), some (.im v27), none, some (.im s31), none]) (e2 := fun (s31 : PyData) (s33 : PyData) => [some (.im a0), some (.im s9), some (.im t11.1), some (.im t11.2), some (.im v27), none, some (.im s31), some (.im s33)]) (u1 := fun d32 => (S.ret d32)) (u2 := fun d34 => (S.ret d34)) d29 (fun d32 => (tc_nm 6 d32 rfl)) (fun s31 d34 => (tc_nm 7 d34 rfl)))) (fun s35 => (e_bin op_add' (e_slot 7 rfl) (e_w (e_lst (a_cons' (e_bin op_ix' (e_slot 4 rfl) (e_w (e_slot 6 rfl))) a_nil')))))) (e_w (e_lst (a_cons' (e_bin op_add' (e_slot 4 rfl) (e_w (e_lst (a_cons' (e_con (PyData.int 0)) a_nil')))) a_nil'))))) fun s56 => (.keep (.keep (.drop (.drop (.drop (.drop (.drop (.drop .nil)))))))))))))) fun v57 =>
  (r_ret (e_slot 1 rfl))))
theorem same_distances_of (ss : List Sv) (μ : Mu) (r : Res Sv) (hs : ss.length = 1) (wf : Wf μ) (e : F_distances_of ss μ = some r) : ∃ r', G_distances_of (ini 8 ss) μ = some r' ∧ Agree μ.length r r' :=
  same_T (n := 1) (fun ds h => by
    obtain ⟨a0, rfl⟩ := len1 h
    exact r_e (tt_distances_of a0)) ss μ r hs wf e
end Pf

set_option maxHeartbeats 1000000
namespace Pf
open PySem PySem.Spec PyProof.Rows L2
noncomputable def T_is_tick (a0 : PyData) : S PyData :=
  (((S.ret a0).bind fun x5 => ((S.ret (PyData.int 0)).bind fun x3 => ((S.ret (PyData.int 1000000000)).bind fun x1 => (S.ret []).bind fun as2 => S.ret (x1 :: as2)).bind fun as4 => S.ret (x3 :: as4)).bind fun as6 => S.ret (x5 :: as6)).bind (u3 T_is_number_from_to))
noncomputable abbrev F_is_tick : List Sv → M Sv := liftF (u1 T_is_tick)
noncomputable def G_is_tick : Rho → M Out :=
  (gRet (callF F_is_number_from_to 3 (argC (slot 0) (argC (con (.int 0)) (argC (con (.int 1000000000)) argN)))))
theorem tt_is_tick (a0 : PyData) : Jd [some (.im a0)] G_is_tick (T_is_tick a0) pR := by
  unfold T_is_tick G_is_tick
  exact (r_ret (e_call (a_cons' (e_slot 0 rfl) (a_cons' (e_con (PyData.int 0)) (a_cons' (e_con (.int 1000000000)) a_nil')))))
theorem same_is_tick (ss : List Sv) (μ : Mu) (r : Res Sv) (hs : ss.length = 1) (wf : Wf μ) (e : F_is_tick ss μ = some r) : ∃ r', G_is_tick (ini 1 ss) μ = some r' ∧ Agree μ.length r r' :=
  same_T (n := 1) (fun ds h => by
    obtain ⟨a0, rfl⟩ := len1 h
    exact r_e (tt_is_tick a0)) ss μ r hs wf e
noncomputable def T_is_row (a0 a1 : PyData) : S PyData :=
  ((((((S.ret a0).bind fun x1 => S.lift (oIsi "tuple" x1)).bind fun x2 => S.lift (toB x2)).bind fun z3 => S.ret (!z3)).bind fun z7 => bOr z7 (((S.ret a0).bind fun x4 => S.lift (oLen x4)).bind fun x5 => (S.ret (PyData.int 2)).bind fun x6 => S.lift (cNe x5 x6))).bind fun z8 => if z8 = true then (S.ret (PyData.bool false)) else
  (((((S.ret a0).bind fun x9 => (S.ret (PyData.int 0)).bind fun x10 => S.lift (oIx x9 x10)).bind fun x15 => ((S.ret (PyData.int 0)).bind fun x13 => ((S.ret a1).bind fun x11 => (S.ret []).bind fun as12 => S.ret (x11 :: as12)).bind fun as14 => S.ret (x13 :: as14)).bind fun as16 => S.ret (x15 :: as16)).bind (u3 T_is_number_from_to)).bind fun x25 => (S.lift (toB x25)).bind fun z26 => dAnd z26 ((((S.ret a0).bind fun x17 => (S.ret (PyData.int 1)).bind fun x18 => S.lift (oIx x17 x18)).bind fun x23 => ((S.ret (PyData.int 1)).bind fun x21 => ((S.ret (PyData.int 1000000)).bind fun x19 => (S.ret []).bind fun as20 => S.ret (x19 :: as20)).bind fun as22 => S.ret (x21 :: as22)).bind fun as24 => S.ret (x23 :: as24)).bind (u3 T_is_number_from_to))))
noncomputable abbrev F_is_row : List Sv → M Sv := liftF (u2 T_is_row)
noncomputable def G_is_row : Rho → M Out :=
  (gSeq (gIf (orT (notT (tst (isiV "tuple" (slot 0)))) (tst (bin pNe (callV bLen (argC (slot 0) argN)) (con (.int 2)))))
  (gRet (con (.bool false)))
  gSkip)
  (gRet (andV (callF F_is_number_from_to 3 (argC (bin pIx (slot 0) (con (.int 0))) (argC (con (.int 0)) (argC (slot 1) argN)))) (callF F_is_number_from_to 3 (argC (bin pIx (slot 0) (con (.int 1))) (argC (con (.int 1)) (argC (con (.int 1000000)) argN)))))))
theorem tt_is_row (a0 a1 : PyData) : Jd [some (.im a0), some (.im a1)] G_is_row (T_is_row a0 a1) pR := by
  unfold T_is_row G_is_row
  exact (r_ifR (u_or (u_not (u_val (e_isi "tuple" (e_slot 0 rfl)))) (u_bin op_eqn' (e_bl1 bl_len (e_w (e_slot 0 rfl))) (e_w (e_con (PyData.int 2))))) (r_ret (e_con (PyData.bool false)))
  (r_ret (e_and (e_call (a_cons' (e_bin op_ix' (e_slot 0 rfl) (e_w (e_con (PyData.int 0)))) (a_cons' (e_con (PyData.int 0)) (a_cons' (e_slot 1 rfl) a_nil')))) (e_call (a_cons' (e_bin op_ix' (e_slot 0 rfl) (e_w (e_con (PyData.int 1)))) (a_cons' (e_con (PyData.int 1)) (a_cons' (e_con (.int 1000000)) a_nil')))))))
theorem same_is_row (ss : List Sv) (μ : Mu) (r : Res Sv) (hs : ss.length = 2) (wf : Wf μ) (e : F_is_row ss μ = some r) : ∃ r', G_is_row (ini 2 ss) μ = some r' ∧ Agree μ.length r r' :=
  same_T (n := 2) (fun ds h => by
    obtain ⟨a0, a1, rfl⟩ := len2 h
    exact r_e (tt_is_row a0 a1)) ss μ r hs wf e
noncomputable def T_tree_error (a0 : PyData) : S PyData :=
  ((((((S.ret a0).bind fun x1 => S.lift (oIsi "tuple" x1)).bind fun x2 => S.lift (toB x2)).bind fun z3 => S.ret (!z3)).bind fun z9 => bOr z9 (((S.ret a0).bind fun x4 => S.lift (oLen x4)).bind fun x7 => ((S.ret (PyData.int 12)).bind fun x5 => (S.ret (PyData.int 1)).bind fun x6 => S.lift (oSub x5 x6)).bind fun x8 => S.lift (cGt x7 x8))).bind fun z10 => if z10 = true then (((S.ret PyData.none).bind fun x13 => ((S.ret (PyData.str "tree")).bind fun x11 => (S.ret []).bind fun as12 => S.ret (x11 :: as12)).bind fun as14 => S.ret (x13 :: as14)).bind fun as15 => S.ret (PyData.tuple as15)) else
  ((((S.ret a0).bind fun x16 => S.lift ((seqD x16).map enuD)).bind fun ds25 => S.foldF (fun (s17 : PUnit) d18 => ((S.lift (un2 d18)).bind fun p20 => (S.ret p20.1).bind fun s21 => (S.ret p20.2).bind fun s23 => S.ret (s21, s23)).bind fun t19 => ((((((S.ret t19.2).bind fun x28 => ((S.ret t19.1).bind fun x26 => (S.ret []).bind fun as27 => S.ret (x26 :: as27)).bind fun as29 => S.ret (x28 :: as29)).bind (u2 T_is_row)).bind fun x30 => S.lift (toB x30)).bind fun z31 => S.ret (!z31)).bind fun z32 => if z32 = true then ((((S.ret t19.1).bind fun x35 => ((S.ret (PyData.str "row")).bind fun x33 => (S.ret []).bind fun as34 => S.ret (x33 :: as34)).bind fun as36 => S.ret (x35 :: as36)).bind fun as37 => S.ret (PyData.tuple as37)).bind fun x38 => S.ret (.rt x38)) else (S.ret (.nx PUnit.unit)))) ds25 PUnit.unit).bind fun o39 => flR o39 fun (s40 : PUnit) =>
  (S.ret PyData.none)))
noncomputable abbrev F_tree_error : List Sv → M Sv := liftF (u1 T_tree_error)
noncomputable def G_tree_error : Rho → M Out :=
  (gSeq (gIf (orT (notT (tst (isiV "tuple" (slot 0)))) (tst (bin pGt (callV bLen (argC (slot 0) argN)) (bin pSub (con (.int 12)) (con (.int 1))))))
  (gRet (tupV (argC (con .none) (argC (con (.str "tree")) argN))))
  gSkip)
  (gSeq (gFor (enuA (slot 0)) (gTp 2 (gsCons (gNm 1) (gsCons (gNm 2) gsNil)))
  (gIf (notT (tst (callF F_is_row 2 (argC (slot 2) (argC (slot 1) argN)))))
  (gRet (tupV (argC (slot 1) (argC (con (.str "row")) argN))))
  gSkip))
  (gRet (con .none))))
theorem tt_tree_error (a0 : PyData) : Jd [some (.im a0), none, none] G_tree_error (T_tree_error a0) pR := by
  unfold T_tree_error G_tree_error
  exact (r_ifR (u_or (u_not (u_val (e_isi "tuple" (e_slot 0 rfl)))) (u_bin op_cmp' (e_bl1 bl_len (e_w (e_slot 0 rfl))) (e_w (e_bin op_sub' (e_con (.int 12)) (e_w (e_con (PyData.int 1))))))) (r_ret (e_tup (a_cons' (e_con PyData.none) (a_cons' (e_con (PyData.str "tree")) a_nil'))))
  (r_flow (s_forF (h := fun (s : PUnit) => [some (.im a0), none, none]) PUnit.unit (w_enA (e_slot 0 rfl)) (.keep (.drop (.drop .nil))) (fun s17 d18 => b_tgF (u := fun d18 => ((S.lift (un2 d18)).bind fun p20 => (S.ret p20.1).bind fun s21 => (S.ret p20.2).bind fun s23 => S.ret (s21, s23))) (e' := fun (t : ((PyData) × (PyData))) => [some (.im a0), some (.im t.1), some (.im t.2)]) d18 (tg_tp2 (e1 := fun (s21 : PyData) => [some (.im a0), some (.im s21), none]) (e2 := fun (s21 : PyData) (s23 : PyData) => [some (.im a0), some (.im s21), some (.im s23)]) (u1 := fun d22 => (S.ret d22)) (u2 := fun d24 => (S.ret d24)) d18 (fun d22 => (tg_nm 1 d22)) (fun s21 d24 => (tg_nm 2 d24))) fun t19 => (q_if (u_not (u_val (e_call (a_cons' (e_slot 2 rfl) (a_cons' (e_slot 1 rfl) a_nil'))))) (f_ret (e_tup (a_cons' (e_slot 1 rfl) (a_cons' (e_con (PyData.str "row")) a_nil')))) (f_skip PUnit.unit (.keep (.drop (.drop .nil))))))) fun s40 =>
  (r_ret (e_con PyData.none))))
theorem same_tree_error (ss : List Sv) (μ : Mu) (r : Res Sv) (hs : ss.length = 1) (wf : Wf μ) (e : F_tree_error ss μ = some r) : ∃ r', G_tree_error (ini 3 ss) μ = some r' ∧ Agree μ.length r r' :=
  same_T (n := 1) (fun ds h => by
    obtain ⟨a0, rfl⟩ := len1 h
    exact r_e (tt_tree_error a0)) ss μ r hs wf e
noncomputable def T_is_mark (a0 a1 : PyData) : S PyData :=
  (((S.ret a1).bind fun x6 => ((S.ret (PyData.int 0)).bind fun x4 => (((S.ret a0).bind fun x1 => S.lift (oLen x1)).bind fun x2 => (S.ret []).bind fun as3 => S.ret (x2 :: as3)).bind fun as5 => S.ret (x4 :: as5)).bind fun as7 => S.ret (x6 :: as7)).bind (u3 T_is_number_from_to))
noncomputable abbrev F_is_mark : List Sv → M Sv := liftF (u2 T_is_mark)
noncomputable def G_is_mark : Rho → M Out :=
  (gRet (callF F_is_number_from_to 3 (argC (slot 1) (argC (con (.int 0)) (argC (callV bLen (argC (slot 0) argN)) argN)))))
theorem tt_is_mark (a0 a1 : PyData) : Jd [some (.im a0), some (.im a1)] G_is_mark (T_is_mark a0 a1) pR := by
  unfold T_is_mark G_is_mark
  exact (r_ret (e_call (a_cons' (e_slot 1 rfl) (a_cons' (e_con (PyData.int 0)) (a_cons' (e_bl1 bl_len (e_w (e_slot 0 rfl))) a_nil')))))
theorem same_is_mark (ss : List Sv) (μ : Mu) (r : Res Sv) (hs : ss.length = 2) (wf : Wf μ) (e : F_is_mark ss μ = some r) : ∃ r', G_is_mark (ini 2 ss) μ = some r' ∧ Agree μ.length r r' :=
  same_T (n := 2) (fun ds h => by
    obtain ⟨a0, a1, rfl⟩ := len2 h
    exact r_e (tt_is_mark a0 a1)) ss μ r hs wf e
noncomputable def T_is_push (a0 a1 : PyData) : S PyData :=
  ((((((S.ret a1).bind fun x1 => S.lift (oIsi "tuple" x1)).bind fun x2 => S.lift (toB x2)).bind fun z3 => S.ret (!z3)).bind fun z7 => bOr z7 (((S.ret a1).bind fun x4 => S.lift (oLen x4)).bind fun x5 => (S.ret (PyData.int 2)).bind fun x6 => S.lift (cNe x5 x6))).bind fun z8 => if z8 = true then (S.ret (PyData.bool false)) else
  ((((S.ret a0).bind fun x13 => (((S.ret a1).bind fun x9 => (S.ret (PyData.int 0)).bind fun x10 => S.lift (oIx x9 x10)).bind fun x11 => (S.ret []).bind fun as12 => S.ret (x11 :: as12)).bind fun as14 => S.ret (x13 :: as14)).bind (u2 T_is_mark)).bind fun x19 => (S.lift (toB x19)).bind fun z20 => dAnd z20 ((((S.ret a1).bind fun x15 => (S.ret (PyData.int 1)).bind fun x16 => S.lift (oIx x15 x16)).bind fun x17 => (S.ret []).bind fun as18 => S.ret (x17 :: as18)).bind (u1 T_is_tick))))
noncomputable abbrev F_is_push : List Sv → M Sv := liftF (u2 T_is_push)
noncomputable def G_is_push : Rho → M Out :=
  (gSeq (gIf (orT (notT (tst (isiV "tuple" (slot 1)))) (tst (bin pNe (callV bLen (argC (slot 1) argN)) (con (.int 2)))))
  (gRet (con (.bool false)))
  gSkip)
  (gRet (andV (callF F_is_mark 2 (argC (slot 0) (argC (bin pIx (slot 1) (con (.int 0))) argN))) (callF F_is_tick 1 (argC (bin pIx (slot 1) (con (.int 1))) argN)))))
theorem tt_is_push (a0 a1 : PyData) : Jd [some (.im a0), some (.im a1)] G_is_push (T_is_push a0 a1) pR := by
  unfold T_is_push G_is_push
  exact (r_ifR (u_or (u_not (u_val (e_isi "tuple" (e_slot 1 rfl)))) (u_bin op_eqn' (e_bl1 bl_len (e_w (e_slot 1 rfl))) (e_w (e_con (PyData.int 2))))) (r_ret (e_con (PyData.bool false)))
  (r_ret (e_and (e_call (a_cons' (e_slot 0 rfl) (a_cons' (e_bin op_ix' (e_slot 1 rfl) (e_w (e_con (PyData.int 0)))) a_nil'))) (e_call (a_cons' (e_bin op_ix' (e_slot 1 rfl) (e_w (e_con (PyData.int 1)))) a_nil')))))
theorem same_is_push (ss : List Sv) (μ : Mu) (r : Res Sv) (hs : ss.length = 2) (wf : Wf μ) (e : F_is_push ss μ = some r) : ∃ r', G_is_push (ini 2 ss) μ = some r' ∧ Agree μ.length r r' :=
  same_T (n := 2) (fun ds h => by
    obtain ⟨a0, a1, rfl⟩ := len2 h
    exact r_e (tt_is_push a0 a1)) ss μ r hs wf e
noncomputable def T__fall_from (a0 a1 : PyData) : S PyData :=
  ((((S.ret a1).bind fun x1 => S.lift (seqD x1)).bind fun ds9 => (S.lift (szD ds9)).bind fun _ => (S.mapM (fun d2 => S.noEx (((S.lift (un2 d2)).bind fun p3 => (S.ret p3.1).bind fun s4 => (S.ret p3.2).bind fun s6 => S.ret (s4, s6)).bind fun s8 => ((S.ret s8.2).bind fun x13 => ((S.ret a0).bind fun x11 => (S.ret s8.1).bind fun x12 => S.lift (oIx x11 x12)).bind fun x14 => S.lift (oAdd x13 x14)))) ds9).bind fun xs10 => S.ret (PyData.list xs10)).bind fun x15 => S.lift (oBest min x15))
noncomputable abbrev F__fall_from : List Sv → M Sv := liftF (u2 T__fall_from)
noncomputable def G__fall_from : Rho → M Out :=
  (gRet (callV bMinA (argC (lcV false [2, 3] (seqV (slot 1)) (gTp 2 (gsCons (gNm 2) (gsCons (gNm 3) gsNil))) yes (bin (pAdd false) (slot 3) (bin pIx (slot 0) (slot 2)))) argN)))
theorem tt__fall_from (a0 a1 : PyData) : Jd [some (.im a0), some (.im a1), none, none] G__fall_from (T__fall_from a0 a1) pR := by
  unfold T__fall_from G__fall_from
  exact (r_ret (e_bl1 bl_best (e_w (e_lc (u := fun d2 => ((S.lift (un2 d2)).bind fun p3 => (S.ret p3.1).bind fun s4 => (S.ret p3.2).bind fun s6 => S.ret (s4, s6))) (e' := fun (s : ((PyData) × (PyData))) => [some (.im a0), some (.im a1), some (.im s.1), some (.im s.2)]) [2, 3] (w_seq (e_slot 1 rfl)) rfl (fun d2 => (tc_tp2 (e1 := fun (s4 : PyData) => [some (.im a0), some (.im a1), some (.im s4), none]) (e2 := fun (s4 : PyData) (s6 : PyData) => [some (.im a0), some (.im a1), some (.im s4), some (.im s6)]) (u1 := fun d5 => (S.ret d5)) (u2 := fun d7 => (S.ret d7)) d2 (fun d5 => (tc_nm 2 d5 rfl)) (fun s4 d7 => (tc_nm 3 d7 rfl)))) (fun s8 => (e_bin op_add' (e_slot 3 rfl) (e_w (e_bin op_ix' (e_slot 0 rfl) (e_w (e_slot 2 rfl))))))))))
theorem same__fall_from (ss : List Sv) (μ : Mu) (r : Res Sv) (hs : ss.length = 2) (wf : Wf μ) (e : F__fall_from ss μ = some r) : ∃ r', G__fall_from (ini 4 ss) μ = some r' ∧ Agree μ.length r r' :=
  same_T (n := 2) (fun ds h => by
    obtain ⟨a0, a1, rfl⟩ := len2 h
    exact r_e (tt__fall_from a0 a1)) ss μ r hs wf e
noncomputable def T_falls_of (a0 a1 : PyData) : S PyData :=
  ((((((S.ret a1).bind fun x1 => S.lift (oIsi "tuple" x1)).bind fun x2 => S.lift (toB x2)).bind fun z3 => S.ret (!z3)).bind fun z10 => bOr z10 (((S.ret (PyData.int 1)).bind fun x5 => ((S.ret a1).bind fun x4 => S.lift (oLen x4)).bind fun x6 => (S.lift (cLe x5 x6)).bind fun z7 => bAnd z7 ((S.ret (PyData.int 20)).bind fun x8 => S.lift (cLe x6 x8))).bind fun z9 => S.ret (!z9))).bind fun z11 => if z11 = true then ((S.ret PyData.none).bind fun x12 => S.thr ⟨"BadPushes", some ("index", x12)⟩) else
  ((((S.ret a1).bind fun x13 => S.lift ((seqD x13).map enuD)).bind fun ds22 => S.foldF (fun (s14 : PUnit) d15 => ((S.lift (un2 d15)).bind fun p17 => (S.ret p17.1).bind fun s18 => (S.ret p17.2).bind fun s20 => S.ret (s18, s20)).bind fun t16 => ((((((S.ret a0).bind fun x25 => ((S.ret t16.2).bind fun x23 => (S.ret []).bind fun as24 => S.ret (x23 :: as24)).bind fun as26 => S.ret (x25 :: as26)).bind (u2 T_is_push)).bind fun x27 => S.lift (toB x27)).bind fun z28 => S.ret (!z28)).bind fun z29 => if z29 = true then ((S.ret t16.1).bind fun x30 => S.thr ⟨"BadPushes", some ("index", x30)⟩) else (S.ret (.nx PUnit.unit)))) ds22 PUnit.unit).bind fun o31 => flR o31 fun (s32 : PUnit) =>
  ((((((S.ret a0).bind fun x33 => (S.ret []).bind fun as34 => S.ret (x33 :: as34)).bind (u1 T_distances_of)).bind fun x35 => S.lift (seqD x35)).bind fun ds38 => (S.lift (szD ds38)).bind fun _ => (S.mapM (fun d36 => S.noEx ((S.ret d36).bind fun s37 => (((S.ret s37).bind fun x42 => ((S.ret a1).bind fun x40 => (S.ret []).bind fun as41 => S.ret (x40 :: as41)).bind fun as43 => S.ret (x42 :: as43)).bind (u2 T__fall_from)))) ds38).bind fun xs39 => S.ret (PyData.list xs39)).bind fun x44 => S.lift (oTuple x44))))
noncomputable abbrev F_falls_of : List Sv → M Sv := liftF (u2 T_falls_of)
noncomputable def G_falls_of : Rho → M Out :=
  (gSeq (gIf (orT (notT (tst (isiV "tuple" (slot 1)))) (notT (tst (chain pLe pLe (con (.int 1)) (callV bLen (argC (slot 1) argN)) (con (.int 20))))))
  (Err_BadPushes.gRaise (con .none))
  gSkip)
  (gSeq (gFor (enuA (slot 1)) (gTp 2 (gsCons (gNm 2) (gsCons (gNm 3) gsNil)))
  (gIf (notT (tst (callF F_is_push 2 (argC (slot 0) (argC (slot 3) argN)))))
  (Err_BadPushes.gRaise (slot 2))
  gSkip))
  (gRet (callV bTuple (argC (lcV false [4] (seqV (callF F_distances_of 1 (argC (slot 0) argN))) (gNm 4) yes (callF F__fall_from 2 (argC (slot 4) (argC (slot 1) argN)))) argN)))))
theorem tt_falls_of (a0 a1 : PyData) : Jd [some (.im a0), some (.im a1), none, none, none] G_falls_of (T_falls_of a0 a1) pR := by
  unfold T_falls_of G_falls_of
  exact (r_ifR (u_or (u_not (u_val (e_isi "tuple" (e_slot 1 rfl)))) (u_not (u_chain op_cmp' op_cmp' (e_con (PyData.int 1)) (e_bl1 bl_len (e_w (e_slot 1 rfl))) (e_w (e_con (.int 20)))))) (r_raise (e_con PyData.none) rfl)
  (r_flow (s_forF (h := fun (s : PUnit) => [some (.im a0), some (.im a1), none, none, none]) PUnit.unit (w_enA (e_slot 1 rfl)) (.keep (.keep (.drop (.drop (.drop .nil))))) (fun s14 d15 => b_tgF (u := fun d15 => ((S.lift (un2 d15)).bind fun p17 => (S.ret p17.1).bind fun s18 => (S.ret p17.2).bind fun s20 => S.ret (s18, s20))) (e' := fun (t : ((PyData) × (PyData))) => [some (.im a0), some (.im a1), some (.im t.1), some (.im t.2), none]) d15 (tg_tp2 (e1 := fun (s18 : PyData) => [some (.im a0), some (.im a1), some (.im s18), none, none]) (e2 := fun (s18 : PyData) (s20 : PyData) => [some (.im a0), some (.im a1), some (.im s18), some (.im s20), none]) (u1 := fun d19 => (S.ret d19)) (u2 := fun d21 => (S.ret d21)) d15 (fun d19 => (tg_nm 2 d19)) (fun s18 d21 => (tg_nm 3 d21))) fun t16 => (q_if (u_not (u_val (e_call (a_cons' (e_slot 0 rfl) (a_cons' (e_slot 3 rfl) a_nil'))))) (r_raiseP (e_slot 2 rfl) rfl) (f_skip PUnit.unit (.keep (.keep (.drop (.drop (.drop .nil))))))))) fun s32 =>
  (r_ret (e_bl1 bl_tuple (e_w (e_lc (u := fun d36 => (S.ret d36)) (e' := fun (s : PyData) => [some (.im a0), some (.im a1), none, none, some (.im s)]) [4] (w_seq (e_call (a_cons' (e_slot 0 rfl) a_nil'))) rfl (fun d36 => (tc_nm 4 d36 rfl)) (fun s37 => (e_call (a_cons' (e_slot 4 rfl) (a_cons' (e_slot 1 rfl) a_nil'))))))))))
theorem same_falls_of (ss : List Sv) (μ : Mu) (r : Res Sv) (hs : ss.length = 2) (wf : Wf μ) (e : F_falls_of ss μ = some r) : ∃ r', G_falls_of (ini 5 ss) μ = some r' ∧ Agree μ.length r r' :=
  same_T (n := 2) (fun ds h => by
    obtain ⟨a0, a1, rfl⟩ := len2 h
    exact r_e (tt_falls_of a0 a1)) ss μ r hs wf e
end Pf

set_option maxHeartbeats 1000000
namespace Pf
open PySem PySem.Spec PyProof.Rows L2
/-! ### a field of an object that is written no more -/
section
variable {X : Cx} {E : XK} {e : Expr} {Fa : Rho → M Sv} {f : Str} {pos : Pos}
end
/-! ### objects that a world knows nothing of -/
theorem Rel.more {K : PySem.W.Frag} {W : Wd} {H H' : Hp} {μ : Mu} (R : Rel K W H μ) (e : Same H H') : Rel K W H' μ := by
  refine ⟨fun a o h => e _ _ (R.sub _ _ h), fun i o h => ?_, R.own, R.inj, ?_, ?_, R.nt⟩
  · have := R.obj i o h
    cases o with
    | gone => trivial
    | lst xs =>
      obtain ⟨vs, h1, h2⟩ := this
      exact ⟨vs, e _ _ h1, h2⟩
  · exact R.tab.ext e
  · rcases R.sm with z | ⟨om, es, ep, h1, h2⟩
    · exact .inl z
    · exact .inr ⟨om, es, ep, e _ _ h1, h2⟩
end Pf

set_option maxHeartbeats 1000000
namespace Pf
open PySem PySem.Spec PyProof.Rows L2
/-! ### C(..): the making of an object, over contracts that know that no repr is under way -/
section
variable {X : Cx} {CX : CXT} {k : Nat} {C f : Addr} {fd : FuncData} {ps : List Str} {sp : Sp} {dvs : List V} {ds : List Value} {E : XK} {x : Str} {p pos : Pos} {e : Expr} {es : List Expr} {t : TA}
theorem run_makeG {pins : List (Addr × Obj)} {σ : L2.St} {H : Hp} {s : Shared} {Q : VK} {us : List Value} {vs : List V} (M : Mk X.K C f) (F : Gk X.prog X.w X.K X.mg X.base CX k f fd ps sp) (hgd : X.A.guards = some []) (hr : Room (k + 1) X.A) (hb : Binds X.K fd ps ds) (hd : Vals dvs ds)
    (hx : Passes CX X E) (I : Inv X pins σ H s) (r : Vals vs us)
    (h : ∀ x dx, H x = none → H dx = none → dx ≠ x → sp (.ref x :: (vs ++ dvs)) (upd (upd H dx (.own x)) x (.ins C dx [])) (fun v H2 => v = .non ∧ Q (.ref x) H2) E) :
    wpAny (model X.prog X.w) X.A (call (.ref C) us) (EP X pins σ Q) X.xe s := by
  have hq := h (s.heap.objs.size + 1) s.heap.objs.size (I.hok.fresh (Nat.le_succ _)) (I.hok.fresh (Nat.le_refl _)) (Nat.ne_of_lt (Nat.lt_succ_self _))
  have I2 := Inv.made (C := C) I
  have r2 : Vals (V.ref (s.heap.objs.size + 1) :: (vs ++ dvs)) (Value.ref (s.heap.objs.size + 1) :: (us ++ ds)) := .cons rfl (r.append hd)
  have hl : (Value.ref (s.heap.objs.size + 1) :: us ++ ds).length = ps.length := by
    have e := r2.length
    rw [F.glen _ _ _ _ hq] at e
    exact e.symm
  refine wpAny_call (make_map (f := f) I.kIn M.makes M.init (beq_iff_eq.mp M.fn) (codeAny_mono (F.grun _ X.stack _ _ ⟨Value.ref (s.heap.objs.size + 1) :: us, []⟩ (Value.ref (s.heap.objs.size + 1) :: (us ++ ds)) (V.ref (s.heap.objs.size + 1) :: (vs ++ dvs)) _ E ?_ (hr.make C us [])
    (I2.env0.make C us []) (hb _ (Value.ref (s.heap.objs.size + 1) :: us) I2.kIn hl) r2 hq) fun r s' hq' => ?_))
  · exact hgd
  cases r with
  | error e => exact hx pins σ _ _ e s' I2 hq'
  | ok fl =>
    cases fl with
    | ret u =>
      obtain ⟨v, H', I3, rv, ev, q3⟩ := I2.after hq'
      subst ev
      exact ⟨rv, ⟨V.ref (s.heap.objs.size + 1), H', I3, rfl, q3⟩⟩
    | next => exact False.elim hq'
    | brk => exact False.elim hq'
    | cont => exact False.elim hq'
theorem pe_makeG (M : Mk X.K C f) (F : Gk X.prog X.w X.K X.mg X.base CX k f fd ps sp) (hgd : X.A.guards = some []) (hr : Room (k + 1) X.A) (hg : Gl X x) (hm : X.mg x = some (.ref C)) (hb : Binds X.K fd ps ds) (hd : Vals dvs ds) (hx : Passes CX X E)
    (ha : PA X (e :: es) t) (hdb : (x == ("__debug__" : Str)) = false := by decide) (he : starEach (e :: es) X.env = (false, eval e X.env) :: starEach es X.env := by rfl) (hpl : (backTo pos (starEach es X.env)).any (·.1) = false := by rfl) :
    PE X (.Call (.Name x p) (e :: es) [] pos) (tMake C sp dvs E t) := by
  refine ⟨fun pins s σ H Q I h => ?_⟩
  refine wpAny_Call_Name_kw (ld_glob I hg hm ?_ hdb)
  refine PySem.W.callWith_K (h₀ := X.base) I.ok.mod.kin M.kp (thn (ha.run pos pins s σ H _ I h) fun us s1 ⟨vs, H1, I1, r, q⟩ => ⟨I1.kIn, ?_⟩) he hpl
  exact run_makeG M F hgd hr hb hd hx I1 r q
end
/-! ### an object under way: a tag that tells where it stands, and no more -/
section
variable {K : PySem.W.Frag} {W : Wd} {H : Hp} {μ : Mu} {p : Addr}
theorem Rel.gone (R : Rel K W H μ) (p : Addr) : Rel K (W.tag μ.length p) H (μ ++ [.gone]) := by
  have hl : (μ ++ [MObj.gone]).length = μ.length + 1 := by simp
  have split : ∀ i ob, (μ ++ [MObj.gone])[i]? = some ob → (i < μ.length ∧ μ[i]? = some ob) ∨ (i = μ.length ∧ ob = .gone) := fun i ob e => by
    by_cases hi : i < μ.length
    · rw [List.getElem?_append_left hi] at e
      exact .inl ⟨hi, e⟩
    · have hi2 : i < (μ ++ [MObj.gone]).length := (List.getElem?_eq_some_iff.mp e).1
      have : i = μ.length := by omega
      subst this
      rw [List.getElem?_append_right (Nat.le_refl _)] at e
      simp at e
      exact .inr ⟨rfl, e.symm⟩
  refine ⟨R.sub, fun i ob e => ?_, fun i ob e ha => ?_, fun i j o1 o2 e1 e2 a1 a2 q => ?_, R.tab, R.sm, R.nt⟩
  · rw [hl]
    rcases split i ob e with ⟨hi, e⟩ | ⟨rfl, rfl⟩
    · rw [Wd.tag_old hi]
      cases ob with
      | gone => trivial
      | lst ys =>
        obtain ⟨us, h, q⟩ := R.obj i _ e
        exact ⟨us, h, q.grow0 Wd.tag_grow⟩
    · trivial
  · rcases split i ob e with ⟨hi, e⟩ | ⟨rfl, rfl⟩
    · rw [Wd.tag_old hi]
      exact R.own i ob e ha
    · cases ha
  · rcases split i o1 e1 with ⟨hi, e1⟩ | ⟨rfl, rfl⟩
    · rcases split j o2 e2 with ⟨hj, e2⟩ | ⟨rfl, rfl⟩
      · rw [Wd.tag_old hi, Wd.tag_old hj] at q
        exact R.inj i j o1 o2 e1 e2 a1 a2 q
      · cases a2
    · cases a1
theorem grow_gone (W : Wd) (H : Hp) (μ : Mu) (p : Addr) : Grow W H μ (W.tag μ.length p) H (μ ++ [.gone]) := by
  have hl : (μ ++ [MObj.gone]).length = μ.length + 1 := by simp
  refine ⟨by rw [hl]; exact Wd.tag_grow, fun a x h _ l => ⟨h, l.1, fun t u e ha => ?_⟩⟩
  by_cases hi : t < μ.length
  · rw [List.getElem?_append_left hi] at e
    rw [Wd.tag_old hi]
    exact l.2 t u e ha
  · have hi2 : t < (μ ++ [MObj.gone]).length := (List.getElem?_eq_some_iff.mp e).1
    have : t = μ.length := by omega
    subst this
    rw [List.getElem?_append_right (Nat.le_refl _)] at e
    simp at e
    subst e
    cases ha
/-- an object that is made: it joins what never changes -/
theorem Rel.adopt {C dx : Addr} {fs gs : List (Str × V)} (R : Rel K W H μ) (l : Loose W μ p) (hy : H p = some (.ins C dx gs)) : Rel K (W.put p (.ins C dx fs)) (upd H p (.ins C dx fs)) μ where
  sub := same_both R.sub
  obj := fun i ob e => by
    cases ob with
    | gone => trivial
    | lst xs =>
      obtain ⟨vs, h, r⟩ := R.obj i _ e
      refine ⟨vs, ?_, SvRs.grow0 (Wd.put_grow l.1) r⟩
      show upd H p _ (W.η i) = _
      rw [upd_ne (l.2 i _ e rfl)]
      exact h
  own := fun i ob e ha => by
    show upd W.S p _ (W.η i) = none
    rw [upd_ne (l.2 i ob e ha)]
    exact R.own i _ e ha
  inj := R.inj
  tab := fun pr hpr => by
    obtain ⟨ps, h1, h2, h3⟩ := R.tab pr hpr
    refine ⟨ps, by rw [upd_ne fun z => by rw [z, hy] at h1; cases h1]; exact h1, h2, fun pos cv hc => ?_⟩
    obtain ⟨c, e1, e2⟩ := h3 pos cv hc
    have nc : c ≠ p := fun z => by
      rw [z, hy] at e2
      unfold LamX.CodeO at e2
      cases e2
    exact ⟨c, e1, by rw [upd_ne nc]; exact e2⟩
  sm := by
    rcases R.sm with h | ⟨om, es, ep, h1, h2⟩
    · exact .inl h
    · exact .inr ⟨om, es, ep, by rw [upd_ne fun z => by rw [z, hy] at h1; cases h1]; exact h1, h2⟩
  nt := fun b ps e => by
    have e' : upd W.S p (.ins C dx fs) b = some (.tbl ps) := e
    by_cases hb : b = p
    · subst hb
      rw [upd_same] at e'
      cases e'
    · rw [upd_ne hb] at e'
      exact R.nt b ps e'
end
end Pf

set_option maxHeartbeats 1000000
namespace Pf
open PySem PySem.Spec PyProof.Rows L2
/-! ### self.f = e, one behind the other, at the end of an __init__ -/
def fieldsM : List (Str × (Rho → M Sv)) → Rho → M (List (PyData × PyData))
  | [], _ => M.ret []
  | (f, F) :: r, ρ => (F ρ).bind fun s => match s with
    | .dat d => (fieldsM r ρ).bind fun ds => M.ret ((.str f, d) :: ds)
    | _ => M.fail
theorem putF_new {f : Str} {v : V} : ∀ {fs : List (Str × V)}, f ∉ fs.map (·.1) → putF f v fs = fs ++ [(f, v)]
  | [], _ => rfl
  | (g, x) :: r, h => by
    rw [List.map_cons, List.mem_cons, not_or] at h
    show (if g = f then _ else _) = _
    rw [if_neg fun z => h.1 z.symm, putF_new h.2]
    rfl
theorem Dqf.snoc {K : PySem.W.Frag} {H : Hp} {f : Str} {v : V} {d : PyData} (h : Dq K H v d) : ∀ {fs : List (Str × V)} {ds : List (PyData × PyData)}, Dqf K H fs ds → Dqf K H (fs ++ [(f, v)]) (ds ++ [(.str f, d)])
  | _, _, .nil => .cons h .nil
  | _, _, .cons h1 r => .cons h1 (Dqf.snoc h r)
section
variable {K : PySem.W.Frag} {W : Wd} {H : Hp} {μ : Mu} {p : Addr}
/-- an object under way is written -/
theorem Rel.under {C dx dx' : Addr} {fs gs : List (Str × V)} (R : Rel K W H μ) (l : Loose W μ p) (hy : H p = some (.ins C dx gs)) : Rel K W (upd H p (.ins C dx' fs)) μ where
  sub := fun a o e => by
    have : a ≠ p := fun z => by rw [z, l.1] at e; cases e
    rw [upd_ne this]
    exact R.sub a o e
  obj := fun i ob e => by
    cases ob with
    | gone => trivial
    | lst xs =>
      obtain ⟨vs, h, r⟩ := R.obj i _ e
      exact ⟨vs, by rw [upd_ne (l.2 i _ e rfl)]; exact h, r⟩
  own := R.own
  inj := R.inj
  tab := fun pr hpr => by
    obtain ⟨ps, h1, h2, h3⟩ := R.tab pr hpr
    refine ⟨ps, by rw [upd_ne fun z => by rw [z, hy] at h1; cases h1]; exact h1, h2, fun pos cv hc => ?_⟩
    obtain ⟨c, e1, e2⟩ := h3 pos cv hc
    have nc : c ≠ p := fun z => by
      rw [z, hy] at e2
      unfold LamX.CodeO at e2
      cases e2
    exact ⟨c, e1, by rw [upd_ne nc]; exact e2⟩
  sm := by
    rcases R.sm with h | ⟨om, es, ep, h1, h2⟩
    · exact .inl h
    · exact .inr ⟨om, es, ep, by rw [upd_ne fun z => by rw [z, hy] at h1; cases h1]; exact h1, h2⟩
  nt := R.nt
theorem grow_under {W0 : Wd} {H0 : Hp} {μ0 : Mu} {o : HO} (g : Grow W0 H0 μ0 W H μ) (n0 : H0 p = none) : Grow W0 H0 μ0 W (upd H p o) μ := ⟨g.gr, fun a x e nt lo => by
  have ap : a ≠ p := fun z => by rw [z, n0] at e; cases e
  obtain ⟨h1, h2⟩ := g.frm a x e nt lo
  exact ⟨by rw [upd_ne ap]; exact h1, h2⟩⟩
end
/-- what the stores want, and what they leave: seen from W0, H0, ahead of the making -/
def tStores (K : PySem.W.Frag) (E : XK) (i : Nat) (fls : List (Str × (Rho → M Sv))) : TS := fun D σ H => ∃ (W0 : Wd) (H0 : Hp) (μ0 : Mu) (W : Wd) (ρ : Rho) (μ : Mu) (r : Res (List (PyData × PyData))) (y C dx : Addr) (gs : List (Str × V)) (ds0 : List (PyData × PyData)), H0 y = none ∧ Grow W0 H0 μ0 W H μ ∧ Here K W σ H ρ μ ∧
  (∃ t, ρ[i]? = some (some (.ref t)) ∧ W.η t = y) ∧ H y = some (.ins C dx gs) ∧ Loose W μ y ∧ Cls K C ∧ (∀ p ∈ fls, NoAttr K C p.1) ∧ gs.length + fls.length < 1000 ∧ Dqf K W.S gs ds0 ∧ (gs.map (·.1) ++ fls.map (·.1)).Nodup ∧ fieldsM fls ρ μ = some r ∧
  Ko K E W0 H0 μ0 r fun W' H' ds μ' => ∀ fs, Dqf K W'.S fs (ds0 ++ ds) → fs.map (·.1) = gs.map (·.1) ++ fls.map (·.1) → H' y = some (.ins C dx fs) → Loose W' μ' y → ∀ σ', D.nx σ' H'
inductive Stores (X : Cx) (E : XK) (i : Nat) : List Stmt → List (Str × (Rho → M Sv)) → Prop
  | nil : Stores X E i [] []
  | cons {x f : Str} {px pa pos : Pos} {e : Expr} {F : Rho → M Sv} {rest : List Stmt} {fls : List (Str × (Rho → M Sv))} (ho : PE X (.Name x px) (tVar i)) (ha : PX X E e F) (hs : swapsWith e (some (.Attribute (.Name x px) f pa)) pos.line X.env = pure false) (r : Stores X E i rest fls) :
    Stores X E i (.Assign [.Attribute (.Name x px) f pa] e pos :: rest) ((f, F) :: fls)
theorem Stores.run {X : Cx} {E : XK} {i : Nat} {sts : List Stmt} {fls : List (Str × (Rho → M Sv))} (h : Stores X E i sts fls) : PSs X sts (tStores X.K E i fls) := by
  induction h with
  | nil =>
    refine pss_weak pss_nil fun D σ H ⟨W0, H0, μ0, W, ρ, μ, r, y, C, dx, gs, ds0, n0, g, h, hs, hy, l, cl, na, ln, dq, nd, e, q⟩ => ?_
    cases e
    exact q W H g h.rel gs (by rw [List.append_nil]; exact dq) (by rw [List.map_nil, List.append_nil]) hy l σ
  | cons ho ha hsw r ih =>
    rename_i x f px pa pos ee F rest fls
    refine pss_weak (pss_cons (ps_fld ho ha hsw) ih) fun D σ H ⟨W0, H0, μ0, W, ρ, μ, r, y, C, dx, gs, ds0, n0, g, h, ⟨t, ht, hty⟩, hy, l, cl, na, ln, dq, nd, e, q⟩ => ?_
    refine tX_bind h e (q.later g) fun v s W1 H1 μ1 g1 h1 rs e1 _ => ?_
    obtain ⟨hy1, l1⟩ := g1.frm y _ hy (fun ps z => by cases z) l
    obtain ⟨u, hu, ru⟩ := h.sl.at_ i _ ht
    obtain ⟨htl, eu⟩ := ru
    rw [hty] at eu
    subst eu
    split at e1
    · rename_i d
      rw [List.length_cons] at ln
      rw [List.map_cons] at nd
      have nf : f ∉ gs.map (·.1) := fun hm => (List.nodup_append.mp nd).2.2 f hm f List.mem_cons_self rfl
      refine ⟨.ref y, hu, y, C, dx, gs, rfl, hy1, cl, na _ List.mem_cons_self, by omega, ?_⟩
      rw [putF_new nf]
      have R1 := h1.rel.under (dx' := dx) (fs := gs ++ [(f, v)]) l1 hy1
      have dq1 := Dqf.snoc (f := f) rs (dq.mono g1.same)
      have sub : ∃ r2, fieldsM fls ρ μ1 = some r2 ∧ Ko X.K E W0 H0 μ0 r2 fun W' H' ds μ' => ∀ fs, Dqf X.K W'.S fs ((ds0 ++ [(.str f, d)]) ++ ds) → fs.map (·.1) = (gs ++ [(f, v)]).map (·.1) ++ fls.map (·.1) → H' y = some (.ins C dx fs) → Loose W' μ' y → ∀ σ', D.nx σ' H' := by
        rcases bind_some e1 with ⟨ds, μ2, e2, e3⟩ | ⟨c, μ2, e2, rfl⟩
        · cases e3
          refine ⟨_, e2, fun W' H' g' R' fs a1 a2 a3 a4 σ' => q W' H' g' R' fs (by rw [List.append_assoc] at a1; exact a1) ?_ a3 a4 σ'⟩
          rw [a2, List.map_append, List.append_assoc]
          rfl
        · exact ⟨_, e2, q⟩
      obtain ⟨r2, e2, q2⟩ := sub
      refine ⟨W0, H0, μ0, W1, ρ, μ1, r2, y, C, dx, gs ++ [(f, v)], ds0 ++ [(.str f, d)], n0, grow_under (g.trans g1) n0, ⟨R1, h1.sl⟩, ⟨t, ht, (g1.at_ t htl).trans hty⟩, upd_same, l1, cl, fun p hp => na p (List.mem_cons_of_mem _ hp), by rw [List.length_append, List.length_singleton]; omega, dq1, ?_, e2, q2⟩
      rw [List.map_append, List.append_assoc]
      exact nd
    · cases e1
end Pf

set_option maxHeartbeats 1000000
namespace Pf
open PySem PySem.Spec PyProof.Rows L2
/-! ### an __init__: checks, then stores -/
def slotRef (ρ : Rho) (i : Nat) : Option Nat := match ρ[i]? with
  | some (some (.ref t)) => some t
  | _ => none
theorem slotRef_some {ρ : Rho} {i t : Nat} (h : slotRef ρ i = some t) : ρ[i]? = some (some (.ref t)) := by
  unfold slotRef at h
  split at h
  · rename_i u e
    cases h
    exact e
  · cases h
def obD (nm : Str) (ds : List (PyData × PyData)) : PyData := .dict ((.none, .str nm) :: ds)
def gStores (nm : Str) (fls : List (Str × (Rho → M Sv))) (ρ : Rho) : M PyData := (fieldsM fls ρ).bind fun ds => M.ret (obD nm ds)
def gThen (i : Nat) (G : Rho → M Out) (k : Rho → M PyData) (ρ : Rho) : M PyData := (G ρ).bind fun o => match o with
  | .nx ρ' => if slotRef ρ' i = slotRef ρ i then k ρ' else M.fail
  | _ => M.fail
def tIn (K : PySem.W.Frag) (E : XK) (nm : Str) (i : Nat) (fn : List Str) (k : Rho → M PyData) : TS := fun D σ H => ∃ (W0 : Wd) (H0 : Hp) (μ0 : Mu) (W : Wd) (ρ : Rho) (μ : Mu) (r : Res PyData) (y C dx : Addr), H0 y = none ∧ Grow W0 H0 μ0 W H μ ∧ Here K W σ H ρ μ ∧
  (∃ t, slotRef ρ i = some t ∧ W.η t = y) ∧ H y = some (.ins C dx []) ∧ Loose W μ y ∧ Cls K C ∧ (∀ f ∈ fn, NoAttr K C f) ∧ fn.length < 1000 ∧ k ρ μ = some r ∧
  Ko K E W0 H0 μ0 r fun W' H' d μ' => ∀ fs ds, d = obD nm ds → Dqf K W'.S fs ds → fs.map (·.1) = fn → H' y = some (.ins C dx fs) → Loose W' μ' y → ∀ σ', D.nx σ' H'
section
variable {X : Cx} {E : XK} {i : Nat} {nm : Str} {fn : List Str} {st : Stmt} {rest sts : List Stmt} {G : Rho → M Out} {k : Rho → M PyData} {fls : List (Str × (Rho → M Sv))}
theorem in_stores (h : Stores X E i sts fls) (hf : fls.map (·.1) = fn) (nd : fn.Nodup) : PSs X sts (tIn X.K E nm i fn (gStores nm fls)) := pss_weak h.run fun D σ H ⟨W0, H0, μ0, W, ρ, μ, r, y, C, dx, n0, g, h, ⟨t, ht, hty⟩, hy, l, cl, na, ln, e, q⟩ => by
  have sub : ∃ r2, fieldsM fls ρ μ = some r2 ∧ Ko X.K E W0 H0 μ0 r2 fun W' H' ds μ' => ∀ fs, Dqf X.K W'.S fs ([] ++ ds) → fs.map (·.1) = ([] : List (Str × V)).map (·.1) ++ fls.map (·.1) → H' y = some (.ins C dx fs) → Loose W' μ' y → ∀ σ', D.nx σ' H' := by
    rcases bind_some e with ⟨ds, μ2, e2, e3⟩ | ⟨c, μ2, e2, rfl⟩
    · cases e3
      exact ⟨_, e2, fun W' H' g' R' fs a1 a2 a3 a4 σ' => q W' H' g' R' fs ds rfl a1 (a2.trans (by rw [List.map_nil, List.nil_append, hf])) a3 a4 σ'⟩
    · exact ⟨_, e2, q⟩
  obtain ⟨r2, e2, q2⟩ := sub
  exact ⟨W0, H0, μ0, W, ρ, μ, r2, y, C, dx, [], [], n0, g, h, ⟨t, slotRef_some ht, hty⟩, hy, l, cl, fun p hp => na _ (by rw [← hf]; exact List.mem_map.mpr ⟨p, hp, rfl⟩), by rw [← hf, List.length_map] at ln; simpa using ln, .nil, by rw [List.map_nil, List.nil_append, hf]; exact nd, e2, q2⟩
theorem in_cons (h : PSX X E st G) (h2 : PSs X rest (tIn X.K E nm i fn k)) : PSs X (st :: rest) (tIn X.K E nm i fn (gThen i G k)) := pss_weak (pss_cons h h2) fun D σ H ⟨W0, H0, μ0, W, ρ, μ, r, y, C, dx, n0, g, h, ⟨t, ht, hty⟩, hy, l, cl, na, ln, e, q⟩ => by
  refine tG_bind h e (q.later g) fun o W1 H1 μ1 g1 R e1 _ => ?_
  have htl : t < μ.length := by
    obtain ⟨u, hu, ru⟩ := h.sl.at_ i _ (slotRef_some ht)
    exact ru.1
  obtain ⟨hy1, l1⟩ := g1.frm y _ hy (fun ps z => by cases z) l
  cases o with
  | nx ρ' =>
    have e1 : (if slotRef ρ' i = slotRef ρ i then k ρ' else M.fail) μ1 = some r := e1
    by_cases c : slotRef ρ' i = slotRef ρ i
    · rw [if_pos c] at e1
      exact fun σ' s' => ⟨W0, H0, μ0, W1, ρ', μ1, r, y, C, dx, n0, g.trans g1, ⟨R, s'⟩, ⟨t, c.trans ht, (g1.at_ t htl).trans hty⟩, hy1, l1, cl, na, ln, e1, q⟩
    · rw [if_neg c] at e1
      cases e1
  | rt s => cases e1
  | bk ρ' => cases e1
  | ct ρ' => cases e1
end
end Pf

set_option maxHeartbeats 1000000
namespace Pf
open PySem PySem.Spec PyProof.Rows L2
/-! ### the promise of an __init__, and C(..) as data -/
def spI (K : PySem.W.Frag) (NL n : Nat) (nm : Str) (fn : List Str) (k : Rho → M PyData) : Sp := fun vs H Q E => vs.length = n + 1 ∧ ∃ (W0 : Wd) (H0 : Hp) (μ : Mu) (ss : List Sv) (r : Res PyData) (y C dx : Addr) (args : List V), vs = .ref y :: args ∧ H0 y = none ∧ H0 dx = none ∧ dx ≠ y ∧ H = upd (upd H0 dx (.own y)) y (.ins C dx []) ∧ Rel K W0 H0 μ ∧
  SvRs K W0 μ.length args ss ∧ Cls K C ∧ (∀ f ∈ fn, NoAttr K C f) ∧ fn.length < 1000 ∧ k (ini NL (.ref μ.length :: ss)) (μ ++ [.gone]) = some r ∧
  Ko K E W0 H0 μ r fun W' H' d μ' => ∀ fs ds, d = obD nm ds → Dqf K W'.S fs ds → fs.map (·.1) = fn → H' y = some (.ins C dx fs) → Loose W' μ' y → Q .non H'
section
variable {P : Program} {w : World} {K : PySem.W.Frag} {mg : Str → Option Value} {base : Heap} {k0 : Nat} {f : Addr} {fd : FuncData} {x qual : Str} {st : Stmt} {N ps : List Str}
theorem init_of {n : Nat} {nm : Str} {fn : List Str} {k : Rho → M PyData} (F : Fun K x qual st f fd) (S : FnScope N ps (defScope st)) (hn : ps.length = n + 1) (hN : 0 < N.length)
    (body : ∀ (cdv : Value) (A : Around) (below : List Env) (s : Shared) (H : Hp) (E : XK), A.guards = some [] → Room k0 (bx P w K mg base N qual st f cdv A below s H E).A → PSs (bx P w K mg base N qual st f cdv A below s H E) (defBody st) (tIn K E nm 0 fn k)) :
    Gk P w K mg base (L2.CX P w) (k0 + 1) f fd ps (spI K N.length n nm fn k) := by
  refine gk_run F S (fun vs H Q E h => h.1.trans hn.symm) fun cdv _ A below s H vs Q E hgd hr ⟨hl, W0, H0, μ, ss, r, y, C, dx, args, ev, n0, nd, ne, eH, R, rs, cl, na, ln, e, q⟩ => ⟨_, body cdv A below s H E hgd hr, ?_⟩
  subst ev eH
  have n1 : upd H0 dx (.own y) y = none := (upd_ne (Ne.symm ne)).trans n0
  have sm : Same H0 (upd (upd H0 dx (.own y)) y (.ins C dx [])) := (same_new nd).trans (same_new n1)
  have g : Grow W0 H0 μ (W0.tag μ.length y) (upd (upd H0 dx (.own y)) y (.ins C dx [])) (μ ++ [.gone]) := Grow.trans (W1 := W0) (H1 := upd (upd H0 dx (.own y)) y (.ins C dx [])) (μ1 := μ) ⟨Gr0.refl _ _, fun a o e _ lo => ⟨sm a o e, lo⟩⟩ (grow_gone _ _ _ _)
  have R1 := (R.more sm).gone y
  have hlen : (μ ++ [MObj.gone]).length = μ.length + 1 := by simp
  have rs1 : SvRs K (W0.tag μ.length y) (μ ++ [MObj.gone]).length (.ref y :: args) (.ref μ.length :: ss) := .cons ⟨by rw [hlen]; exact Nat.lt_succ_self _, by rw [Wd.tag_self]⟩ (rs.grow g)
  refine ⟨W0, H0, μ, W0.tag μ.length y, ini N.length (.ref μ.length :: ss), μ ++ [.gone], r, y, C, dx, n0, g, ⟨R1, ini_sl rs1⟩, ⟨μ.length, ?_, Wd.tag_self⟩, upd_same, ⟨R.free n0, fun t ob e1 ha => ?_⟩, cl, na, ln, e, ?_⟩
  · rfl
  · by_cases hi : t < μ.length
    · rw [List.getElem?_append_left hi] at e1
      rw [Wd.tag_old hi]
      cases ob with
      | gone => cases ha
      | lst xs => exact R.apart n0 e1
    · have hi2 : t < (μ ++ [MObj.gone]).length := (List.getElem?_eq_some_iff.mp e1).1
      have : t = μ.length := by omega
      subst this
      rw [List.getElem?_append_right (Nat.le_refl _)] at e1
      simp at e1
      subst e1
      cases ha
  · cases r with
    | ok d μ' => exact fun W' H' g' R' fs ds a1 a2 a3 a4 a5 σ' => q W' H' g' R' fs ds a1 a2 a3 a4 a5
    | ex c μ' => exact q
end
theorem upd_id {H : Hp} {a : Addr} {o : HO} (h : H a = some o) : upd H a o = H := by
  funext b
  by_cases e : b = a
  · rw [e, upd_same, h]
  · rw [upd_ne e]
section
variable {X : Cx} {CX : CXT} {k0 NL n : Nat} {C f : Addr} {fd : FuncData} {ps : List Str} {E : XK} {x nm : Str} {p pos : Pos} {e : Expr} {es : List Expr} {Fs : Rho → M (List Sv)} {fn : List Str} {k : Rho → M PyData}
end
end Pf

set_option maxHeartbeats 1000000
namespace Pf
open PySem PySem.Spec PyProof.Rows L2
/-! ### the promise of an __init__ by another function that agrees -/
def spF (K : PySem.W.Frag) (n : Nat) (nm : Str) (fn : List Str) (Fm : List Sv → M Sv) : Sp := fun vs H Q E => vs.length = n + 1 ∧ ∃ (W0 : Wd) (H0 : Hp) (μ : Mu) (ss : List Sv) (r : Res Sv) (y C dx : Addr) (args : List V), vs = .ref y :: args ∧ H0 y = none ∧ H0 dx = none ∧ dx ≠ y ∧ H = upd (upd H0 dx (.own y)) y (.ins C dx []) ∧ Rel K W0 H0 μ ∧
  SvRs K W0 μ.length args ss ∧ Cls K C ∧ (∀ f ∈ fn, NoAttr K C f) ∧ fn.length < 1000 ∧ Fm ss μ = some r ∧
  Ko K E W0 H0 μ r fun W' H' s μ' => ∀ fs ds, s = .dat (obD nm ds) → Dqf K W'.S fs ds → fs.map (·.1) = fn → H' y = some (.ins C dx fs) → Loose W' μ' y → Q .non H'
def AgI (n : Nat) (r : Res Sv) (r' : Res PyData) : Prop := match r, r' with
  | .ok s μ1, .ok d μ2 => s = .dat d ∧ (∃ g, μ2 = μ1 ++ g) ∧ Wf μ1 ∧ n ≤ μ1.length
  | .ex c μ1, .ex c' μ2 => c = c' ∧ (∃ g, μ2 = μ1 ++ g) ∧ Wf μ1 ∧ n ≤ μ1.length ∧ ∀ f s, c.fld = some (f, s) → fits μ1.length s
  | _, _ => False
theorem gk_init {P : Program} {w : World} {K : PySem.W.Frag} {mg : Str → Option Value} {base : Heap} {CX : CXT} {k0 NL n : Nat} {f : Addr} {fd : FuncData} {ps : List Str} {nm : Str} {fn : List Str} {k : Rho → M PyData} {Fm : List Sv → M Sv} (F : Gk P w K mg base CX k0 f fd ps (spI K NL n nm fn k))
    (same : ∀ (ss : List Sv) (μ : Mu) (r : Res Sv), ss.length = n → Wf μ → Fm ss μ = some r → ∃ r', k (ini NL (.ref μ.length :: ss)) (μ ++ [.gone]) = some r' ∧ AgI μ.length r r') : Gk P w K mg base CX k0 f fd ps (spF K n nm fn Fm) := by
  have imp : ∀ vs H Q E, spF K n nm fn Fm vs H Q E → spI K NL n nm fn k vs H Q E := fun vs H Q E ⟨hl, W0, H0, μ, ss, r, y, C, dx, args, ev, n0, nd, ne, eH, R, rs, cl, na, ln, e, q⟩ => by
    have hs : ss.length = n := by
      rw [ev, List.length_cons, rs.len] at hl
      omega
    obtain ⟨r', e', a⟩ := same ss μ r hs R.wf e
    refine ⟨hl, W0, H0, μ, ss, r', y, C, dx, args, ev, n0, nd, ne, eH, R, rs, cl, na, ln, e', ?_⟩
    cases r with
    | ok s μ1 =>
      cases r' with
      | ex c μ2 => exact a.elim
      | ok d μ2 =>
        obtain ⟨rfl, ⟨g, rfl⟩, wf, hl⟩ := a
        intro W' H' gr R' fs ds ed dq hfn hy l
        exact q W' H' (gr.cut hl) (R'.cut wf) fs ds (by rw [ed]) dq hfn hy ⟨l.1, fun t ob e ha => l.2 t ob (pre_get e) ha⟩
    | ex c μ1 =>
      cases r' with
      | ok o μ2 => exact a.elim
      | ex c' μ2 =>
        obtain ⟨rfl, ⟨g, rfl⟩, wf, hl, hs⟩ := a
        refine fun W' H' cls d gr R x => q W' H' cls d (gr.cut hl) (R.cut wf) ⟨x.1, ?_⟩
        have x2 := x.2
        cases hf : c.fld with
        | none =>
          rw [hf] at x2
          exact x2
        | some fs =>
          obtain ⟨fn, s⟩ := fs
          rw [hf] at x2
          obtain ⟨dd, v, h1, h2, h3⟩ := x2
          exact ⟨dd, v, h1, h2, sv_cut h3 (hs fn s hf)⟩
  exact ⟨fun vs H Q E h => F.glen vs H Q E (imp _ _ _ _ h), fun A o s H a us vs Q E hg hr e b r q => F.grun A o s H a us vs Q E hg hr e b r (imp _ _ _ _ q)⟩
section
variable {X : Cx} {CX : CXT} {k0 n : Nat} {C f : Addr} {fd : FuncData} {ps : List Str} {E : XK} {x nm : Str} {p pos : Pos} {e : Expr} {es : List Expr} {Fs : Rho → M (List Sv)} {fn : List Str} {Fm : List Sv → M Sv}
theorem x_makeF (M0 : Mk X.K C f) (F : Gk X.prog X.w X.K X.mg X.base CX k0 f fd ps (spF X.K n nm fn Fm)) (ob : ObC X.K C nm fn) (hgd : X.A.guards = some []) (hr : Room (k0 + 1) X.A) (hm : X.mg x = some (.ref C)) (hb : Binds X.K fd ps []) (hx : Passes CX X E) (ha : PAX X E (e :: es) Fs)
    (hf : fn.length < 1000 := by decide) (hg : Gl X x := by rfl) (hdb : (x == ("__debug__" : Str)) = false := by decide) (he : starEach (e :: es) X.env = (false, eval e X.env) :: starEach es X.env := by rfl) (hpl : (backTo pos (starEach es X.env)).any (·.1) = false := by rfl) :
    PX X E (.Call (.Name x p) (e :: es) [] pos) (fun ρ => (Fs ρ).bind fun ss => if decide (ss.length = n) = true then Fm ss else M.fail) := pe_weak (pe_makeG M0 F hgd hr hg hm hb .nil hx ha hdb he hpl) fun σ H Q ⟨W, ρ, μ, r, h, e0, q⟩ => by
  refine tAr_bind h e0 q fun vs ss W1 H1 μ1 g1 h1 rs e1 q1 => ?_
  obtain ⟨c, e1⟩ := iff_ok e1
  have c := of_decide_eq_true c
  intro y dx ny nd ne
  refine ⟨?_, W1, H1, μ1, ss, r, y, C, dx, vs ++ [], rfl, ny, nd, ne, rfl, h1.rel, by rw [List.append_nil]; exact rs, ob.cl, ob.fld, hf, e1, ?_⟩
  · rw [List.length_cons, List.append_nil, rs.len, c]
  · cases r with
    | ex c μ' => exact q1
    | ok s μ' =>
      intro W' H' g' R' fs ds ed dq efn hy l
      subst ed
      refine ⟨rfl, ?_⟩
      have R2 := R'.adopt (fs := fs) l hy
      rw [upd_id hy] at R2
      have g2 : Grow W1 H1 μ1 (W'.put y (.ins C dx fs)) H' μ' := by
        refine ⟨g'.gr.trans (Wd.put_grow l.1), fun a o e nt lo => ?_⟩
        have ay : a ≠ y := fun z => by rw [z, ny] at e; cases e
        obtain ⟨b1, b2⟩ := g'.frm a o e nt lo
        refine ⟨b1, ?_, b2.2⟩
        show upd W'.S y _ a = none
        rw [upd_ne ay]
        exact b2.1
      have nW : W'.S y = none := l.1
      exact q1 _ _ g2 R2 _ (.ins upd_same (by rw [efn]; exact ob) (dq.mono (same_new nW)))
end
end Pf

set_option maxHeartbeats 1000000
namespace Pf
open PySem PySem.Spec PyProof.Rows L2
/-! ### an __init__ over plain data -/
/-- the data itself -/
def pI : Post PyData PyData := fun k rest ρ μ a d => a = d ∧ ∃ g, μ = dkO k ++ rest ++ g
/-- the fields -/
def pFl : Post (List (PyData × PyData)) (List (PyData × PyData)) := fun k rest ρ μ a d => a = d ∧ ∃ g, μ = dkO k ++ rest ++ g
section
variable {l l1 : En} {F : Rho → M Sv} {t : S PyData} {f nm : Str} {fls : List (Str × (Rho → M Sv))} {ts : S (List (PyData × PyData))}
theorem fl_nil : Jd l (fieldsM []) (S.ret []) pFl := fun k rest ρ μ e => Jl.ret ⟨rfl, e.pre⟩
theorem fl_cons (h : Jd l F t (pV l1)) (h2 : Jd l1 (fieldsM fls) ts pFl) : Jd l (fieldsM ((f, F) :: fls)) (t.bind fun d => ts.bind fun ds => S.ret ((.str f, d) :: ds)) pFl := fun k rest ρ μ e => by
  refine (h k rest ρ μ e).bind fun k1 μ1 a d ⟨z, e1⟩ => ?_
  subst z
  refine (h2 k1 rest ρ μ1 e1).bind fun k2 μ2 as ds ⟨z, e2⟩ => ?_
  subst z
  exact Jl.ret ⟨rfl, e2⟩
theorem i_stores (h : Jd l (fieldsM fls) ts pFl) : Jd l (gStores nm fls) (ts.bind fun ds => S.ret (obD nm ds)) pI := fun k rest ρ μ e => by
  refine (h k rest ρ μ e).bind fun k1 μ1 as ds ⟨z, e1⟩ => ?_
  subst z
  exact Jl.ret ⟨rfl, e1⟩
/-- a check ahead: the tag stays where it is -/
theorem i_then {σ : Type} {G : Rho → M Out} {tg : Nat} {u : S σ} {k0 : Rho → M PyData} {T : σ → S PyData} {e' : σ → En} (h : Jd l G u (pN e')) (hl : l[0]? = some (some (.tg tg))) (hl' : ∀ s, (e' s)[0]? = some (some (.tg tg))) (h2 : ∀ s, Jd (e' s) k0 (T s) pI) : Jd l (gThen 0 G k0) (u.bind T) pI := fun k rest ρ μ e => by
  refine (h k rest ρ μ e).bind fun k1 μ1 o s p => ?_
  obtain ⟨ρ', rfl, e1⟩ := p
  obtain ⟨s1, a1, a2⟩ := e.at_ 0 _ hl
  obtain ⟨s2, b1, b2⟩ := e1.at_ 0 _ (hl' s)
  have a2 : s1 = .ref tg := a2
  have b2 : s2 = .ref tg := b2
  subst a2 b2
  have c : slotRef ρ' 0 = slotRef ρ 0 := by
    unfold slotRef
    rw [a1, b1]
  dsimp only
  rw [if_pos c]
  have := h2 s k1 rest ρ' μ1 e1
  exact this
end
def inT (NL t : Nat) (ds : List PyData) : En := some (.tg t) :: inE (NL - 1) ds
theorem inT_env {NL t : Nat} {ds : List PyData} {k : Dk} {rest : Mu} (hN : 0 < NL) : EnvR (inT NL t ds) k rest (ini NL (.ref t :: ds.map Sv.dat)) (dkO k ++ rest) := by
  have hi : ini NL (.ref t :: ds.map Sv.dat) = some (.ref t) :: ini (NL - 1) (ds.map Sv.dat) := by
    unfold ini
    rw [List.map_cons, List.cons_append, List.length_cons, show NL - ((ds.map Sv.dat).length + 1) = NL - 1 - (ds.map Sv.dat).length by omega]
  rw [hi]
  have h := inE_env (N := NL - 1) (ds := ds) (k := k) (rest := rest)
  refine ⟨h.pre, by unfold inT; rw [List.length_cons, List.length_cons, h.len], fun i x e => ?_, fun i j xs ys t e1 e2 e3 e4 => ?_⟩
  · cases i with
    | zero =>
      cases e
      exact ⟨_, rfl, rfl⟩
    | succ i => exact h.at_ i x e
  · cases i with
    | zero => cases e1
    | succ i =>
      cases j with
      | zero => cases e2
      | succ j => exact congrArg (· + 1) (h.inj i j xs ys t e1 e2 e3 e4)
theorem same_I {NL n : Nat} {k0 : Rho → M PyData} {T : List PyData → S PyData} (hN : 0 < NL) (h : ∀ t ds, ds.length = n → Jd (inT NL t ds) k0 (T ds) pI) (ss : List Sv) (μ : Mu) (r : Res Sv) (hs : ss.length = n) (wf : Wf μ) (e : liftF T ss μ = some r) :
    ∃ r', k0 (ini NL (.ref μ.length :: ss)) (μ ++ [.gone]) = some r' ∧ AgI μ.length r r' := by
  unfold liftF at e
  cases hp : parse μ with
  | none =>
    rw [hp] at e
    cases e
  | some z =>
    obtain ⟨k, rest⟩ := z
    cases hd : dats ss with
    | none =>
      rw [hp, hd] at e
      cases e
    | some ds =>
      rw [hp, hd] at e
      dsimp only at e
      cases ht : T ds k with
      | none =>
        rw [ht] at e
        cases e
      | some z =>
        obtain ⟨r0, k'⟩ := z
        rw [ht] at e
        cases e
        have hm := parse_eq hp
        have hss := dats_eq hd
        subst hm hss
        rw [List.length_map] at hs
        have env := inT_env (t := (dkO k ++ rest).length) (ds := ds) (k := k) (rest := rest ++ [.gone]) hN
        rw [← List.append_assoc] at env
        have main := h _ ds hs k (rest ++ [.gone]) _ _ env r0 k' ht
        have hle : (dkO k ++ rest).length ≤ (dkO k' ++ rest).length := by rw [List.length_append, List.length_append]; exact Nat.le_refl _
        cases r0 with
        | ok d =>
          obtain ⟨a, μ', w, rfl, g, hg⟩ := main
          refine ⟨_, w, rfl, ⟨[.gone] ++ g, ?_⟩, wf_deck wf, hle⟩
          rw [hg]
          simp only [List.append_assoc]
        | ex c =>
          obtain ⟨g, w⟩ := main
          refine ⟨_, w, rfl, ⟨[.gone] ++ g, by simp only [List.append_assoc]⟩, wf_deck wf, hle, fun f s hf => ?_⟩
          obtain ⟨C, fl⟩ := c
          cases fl with
          | none => cases hf
          | some p =>
            cases hf
            trivial
end Pf

namespace Pf
open PySem PySem.Spec PyProof.Rows L2
end Pf

set_option maxHeartbeats 1000000
namespace Pf
open PySem PySem.Spec PyProof.Rows L2
/-! ### an except suite, its error's class being known: what it returns -/
inductive SA where
  | b (x : Bool)
  | s (x : Str)
  | n
  | f
  | r
inductive SV where
  | at_ (a : SA)
  | l (xs : List SA)
  | t (xs : List SA)
def SA.data (d : PyData) : SA → Option PyData
  | .b y => some (.bool y)
  | .s x => some (.str x)
  | .n => some .none
  | .f => some d
  | .r => if okShow d = true then some (.str d.shown) else none
def SA.datas (d : PyData) : List SA → Option (List PyData)
  | [] => some []
  | x :: xs => (x.data d).bind fun y => (SA.datas d xs).map (y :: ·)
def SV.data (d : PyData) : SV → Option PyData
  | .at_ a => a.data d
  | .l xs => (SA.datas d xs).map .list
  | .t xs => (SA.datas d xs).map .tuple
/-- the caught one: where it stands, its dict, its class, its field -/
structure Cau where
  a : Addr
  dd : Addr
  C : Addr
  fl : Str
  v : V
  i : Nat
  N : Nat
def SAr (c : Cau) (d : PyData) (u : V) : SA → Prop
  | .b y => u = .bl y
  | .s x => u = .str x
  | .n => u = .non
  | .f => u = c.v
  | .r => okShow d = true → u = .str d.shown
def SAs (c : Cau) (d : PyData) : List V → List SA → Prop
  | [], [] => True
  | u :: us, x :: xs => SAr c d u x ∧ SAs c d us xs
  | _, _ => False
def SVr (c : Cau) (d : PyData) (H0 H : Hp) (u : V) : SV → Prop
  | .at_ a => SAr c d u a
  | .l xs => ∃ p us, u = .ref p ∧ H0 p = none ∧ H p = some (.lst us) ∧ SAs c d us xs
  | .t xs => ∃ p us, u = .ref p ∧ H0 p = none ∧ H p = some (.tup us) ∧ SAs c d us xs
/-- what stands ahead of an expression of the suite -/
structure Pre (K : PySem.W.Frag) (c : Cau) (d : PyData) (fs : List (Nat × Bool)) (σ : L2.St) (H : Hp) : Prop where
  e : σ[c.i]? = some (some (.ref c.a))
  fl : ∀ p ∈ fs, σ[p.1]? = some (some (.bl p.2))
  x : H c.dd = some (.xd [(c.fl, c.v)])
  ln : σ.length = c.N
  ok : ∃ W μ, Rel K W H μ ∧ Dq K W.S c.v d
theorem Pre.up {K : PySem.W.Frag} {c : Cau} {d : PyData} {fs : List (Nat × Bool)} {σ : L2.St} {H H' : Hp} (h : Pre K c d fs σ H) (s : Same H H') : Pre K c d fs σ H' :=
  ⟨h.e, h.fl, s _ _ h.x, h.ln, let ⟨W, μ, R, q⟩ := h.ok; ⟨W, μ, R.more s, q⟩⟩
theorem none_back {H0 H1 : Hp} {p : Addr} (s : Same H0 H1) (n : H1 p = none) : H0 p = none := by
  cases z : H0 p with
  | none => rfl
  | some o =>
    rw [s _ _ z] at n
    cases n
theorem SVr.base {c : Cau} {d : PyData} {H0 H1 H : Hp} {u : V} (s : Same H0 H1) : ∀ {x : SV}, SVr c d H1 H u x → SVr c d H0 H u x
  | .at_ _, h => h
  | .l _, ⟨p, us, e, n, q, r⟩ => ⟨p, us, e, none_back s n, q, r⟩
  | .t _, ⟨p, us, e, n, q, r⟩ => ⟨p, us, e, none_back s n, q, r⟩
section
variable {X : Cx} {c : Cau} {d : PyData} {fs : List (Nat × Bool)} {oe : Obj} {pn : List (Addr × Obj)}
def tSE (K : PySem.W.Frag) (c : Cau) (d : PyData) (fs : List (Nat × Bool)) (val : SV) : TE := fun σ H Q => Pre K c d fs σ H ∧ ∀ H' u, Same H H' → SVr c d H H' u val → Q u H'
def tSAs (K : PySem.W.Frag) (c : Cau) (d : PyData) (fs : List (Nat × Bool)) (vals : List SA) : TA := fun σ H Q => Pre K c d fs σ H ∧ ∀ H' us, Same H H' → SAs c d us vals → Q us H'
def tST (K : PySem.W.Frag) (c : Cau) (d : PyData) (fs : List (Nat × Bool)) (b : Bool) : TT := fun σ H Q => Pre K c d fs σ H ∧ ∀ H', Same H H' → Q b H'
def tSR (K : PySem.W.Frag) (c : Cau) (d : PyData) (fs : List (Nat × Bool)) (val : SV) : TS := fun D σ H => Pre K c d fs σ H ∧ ∀ H' u, Same H H' → SVr c d H H' u val → D.rt u H'
abbrev SE (X : Cx) (c : Cau) (oe : Obj) (pn : List (Addr × Obj)) (d : PyData) (fs : List (Nat × Bool)) (e : Expr) (val : SV) : Prop := PE (X.suite c.a ((c.a, oe) :: pn)) e (tSE X.K c d fs val)
abbrev SEs (X : Cx) (c : Cau) (oe : Obj) (pn : List (Addr × Obj)) (d : PyData) (fs : List (Nat × Bool)) (es : List Expr) (vals : List SA) : Prop := PA (X.suite c.a ((c.a, oe) :: pn)) es (tSAs X.K c d fs vals)
abbrev ST (X : Cx) (c : Cau) (oe : Obj) (pn : List (Addr × Obj)) (d : PyData) (fs : List (Nat × Bool)) (e : Expr) (b : Bool) : Prop := PT (X.suite c.a ((c.a, oe) :: pn)) e (tST X.K c d fs b)
abbrev SW (X : Cx) (c : Cau) (oe : Obj) (pn : List (Addr × Obj)) (d : PyData) (fs : List (Nat × Bool)) (e : Expr) (b : Bool) : Prop := PW (X.suite c.a ((c.a, oe) :: pn)) e (tST X.K c d fs b)
abbrev SR (X : Cx) (c : Cau) (oe : Obj) (pn : List (Addr × Obj)) (d : PyData) (fs : List (Nat × Bool)) (sts : List Stmt) (val : SV) : Prop := PSs (X.suite c.a ((c.a, oe) :: pn)) sts (tSR X.K c d fs val)
variable {e a b : Expr} {p pos : Pos}
theorem se_con {v : V} {x : SA} (h : PE (X.suite c.a ((c.a, oe) :: pn)) e (tC v)) (r : SAr c d v x) : SE X c oe pn d fs e (.at_ x) := pe_weak h fun σ H Q ⟨h1, q⟩ => q H v (Same.refl _) r
theorem se_str {x : Str} {j : Nat} : SE X c oe pn d fs (.Constant (.str x) j pos) (.at_ (.s x)) := se_con pe_str rfl
/-! what is wanted of the class -/
structure ExK (K : PySem.W.Frag) (C : Addr) : Prop where
  f_get : PySem.W.findIn K (.ref C) "__getattribute__" = some (some (.builtin "BaseException.__getattribute__"))
  f_at : PySem.W.findIn K (.ref C) "__getattr__" = some none
  sub : PySem.W.subIn K (.ref C) (.type "BaseException") = some true
  f_cls : PySem.W.findIn K (.ref C) "__class__" = some (some (.builtin "object.__class__"))
  s_get : PySem.W.specialIn K (.builtin "object.__class__") "__get__" = some (some (.builtin "getset_descriptor.__get__"))
  tk : PySem.W.takesIn K (.builtin "object.__class__") = some true
  mro : PySem.W.mroIn K C (.type "object") = some true
  dct : PySem.W.hasDictIn K C = true
theorem ExK.kit {od : Option Obj} {x C : Addr} {ox : Obj} (T : ExK X.K C) : PySem.W.KitX X.K (.ref x) (.ref C) (fun h => PySem.W.InstAt h x ox C od) := by
  refine PySem.W.kitx_exc ?_ T.f_get T.f_at T.sub T.f_cls T.s_get T.tk T.mro
  obtain ⟨cd, hc, _⟩ := PySem.W.any_some T.dct
  rw [hc]
  rfl
def rI1 (K : PySem.W.Frag) (c : Cau) : List V → Hp → VK → Prop := fun xs H Q => ∃ (fs : List (Str × V)) (x : V) (cv : Value) (b : Bool), H c.dd = some (.xd fs) ∧ xs = [.ref c.a, x] ∧ clsV x = some cv ∧ PySem.W.kitOne K (.ref c.C) cv = some b ∧ Q (.bl b) H
def rIN (K : PySem.W.Frag) (c : Cau) : List V → Hp → VK → Prop := fun xs H Q => ∃ (fs : List (Str × V)) (t : Addr) (cs : List V) (cvs : List Value) (b : Bool), H c.dd = some (.xd fs) ∧ xs = [.ref c.a, .ref t] ∧ H t = some (.tup cs) ∧ clsVs cs = some cvs ∧ PySem.W.kitAny K (.ref c.C) cvs = some b ∧ Q (.bl b) H
theorem call_i1 (T : ExK X.K c.C) (hz : Zc (.ref c.C) (some c.dd) oe) (hf : ∃ vs, oe.data = .fields vs) : CallR (X.suite c.a ((c.a, oe) :: pn)) (.builtin "isinstance") (rI1 X.K c) := by
  intro pins s σ H xs us Q I r ⟨fs, x, cv, b, hd, e3, hcl, hk, q⟩
  subst e3
  obtain ⟨u, u2, rfl, r1, r2⟩ := vals2 r
  cases r1
  have := cls_rel hcl r2
  subst this
  obtain ⟨od, J⟩ := held_at I hz hf hd
  exact PySem.W.kia_one T.kit I.kIn J hk (fun z => nomatch z) fun tk => ⟨.bl b, H, I.kept (t' := tk) fun _ _ z => z, rfl, q⟩
theorem call_iN (T : ExK X.K c.C) (hz : Zc (.ref c.C) (some c.dd) oe) (hf : ∃ vs, oe.data = .fields vs) : CallR (X.suite c.a ((c.a, oe) :: pn)) (.builtin "isinstance") (rIN X.K c) := by
  intro pins s σ H xs us Q I r ⟨fs, t, cs, cvs, b, hd, e3, ht, hcs, hk, q⟩
  subst e3
  obtain ⟨u, u2, rfl, r1, r2⟩ := vals2 r
  cases r1
  cases r2
  obtain ⟨od, J⟩ := held_at I hz hf hd
  obtain ⟨its, rv, ⟨⟨cl, dc, dt, sl⟩, ho, hc, n, hdt⟩, _⟩ := I.tuple (SqT.of ht)
  have e := clss_rel hcs rv
  subst e
  simp only at hc hdt
  subst hc hdt
  exact PySem.W.kia_tup T.kit I.kIn J ho hk (fun z => nomatch z) fun tk => ⟨.bl b, H, I.kept (t' := tk) fun _ _ z => z, rfl, q⟩
theorem se_isi1 {x : Str} {ce : Expr} {cx : V} {cv : Value} {bb : Bool} {p1 p2 : Pos} (T : ExK X.K c.C) (hz : Zc (.ref c.C) (some c.dd) oe) (hf : ∃ vs, oe.data = .fields vs) (gI : Gl X "isinstance") (mI : X.mg "isinstance" = none)
    (hN : X.N[c.i]? = some x) (hv : Vis X.env.scope x) (hc : PE (X.suite c.a ((c.a, oe) :: pn)) ce (tC cx)) (hcl : clsV cx = some cv) (hk : PySem.W.kitOne X.K (.ref c.C) cv = some bb) (hst : starEach [ce] X.env = (false, eval ce X.env) :: starEach [] X.env := by rfl) (hpl : (backTo pos (starEach [ce] X.env)).any (·.1) = false := by rfl) (hd : (x == ("__debug__" : Str)) = false := by decide) (hcd : (x == ("__classdict__" : Str)) = false := by decide) :
    SE X c oe pn d fs (.Call (.Name "isinstance" p1) [.Name x p2, ce] [] pos) (.at_ (.b bb)) := by
  have nm : PE (X.suite c.a ((c.a, oe) :: pn)) (.Name x p2) (tVar c.i) := pe_var hN hv hd hcd
  refine pe_weak (pe_callB (call_i1 T hz hf) gI mI PyProof.Rows.boot_isinstance (pa_cons nm (pa_cons hc pa_nil hst)) (hpl := hpl)) fun σ H Q ⟨h1, q⟩ => ?_
  exact ⟨.ref c.a, h1.e, _, cx, cv, bb, h1.x, rfl, hcl, hk, q H _ (Same.refl _) rfl⟩
def tCs (vs : List V) : TA := fun _ H Q => Q vs H
theorem cs_nil : PA X [] (tCs []) := pa_weak pa_nil fun σ H Q q => q
theorem cs_cons {es : List Expr} {v : V} {vs : List V} (h : PE X e (tC v)) (r : PA X es (tCs vs)) (hst : starEach (e :: es) X.env = (false, eval e X.env) :: starEach es X.env := by rfl) : PA X (e :: es) (tCs (v :: vs)) := pa_weak (pa_cons h r hst) fun σ H Q q => q
theorem se_isiN {x : Str} {ces : List Expr} {cs : List V} {cvs : List Value} {bb : Bool} {j : Nat} {p1 p2 p3 : Pos} (T : ExK X.K c.C) (hz : Zc (.ref c.C) (some c.dd) oe) (hf : ∃ vs, oe.data = .fields vs) (gI : Gl X "isinstance") (mI : X.mg "isinstance" = none)
    (hN : X.N[c.i]? = some x) (hv : Vis X.env.scope x) (hc : PA (X.suite c.a ((c.a, oe) :: pn)) ces (tCs cs)) (hcl : clsVs cs = some cvs) (hk : PySem.W.kitAny X.K (.ref c.C) cvs = some bb) (hl : cs.length ≤ 100 := by simp) (hd : (x == ("__debug__" : Str)) = false := by decide) (hcd : (x == ("__classdict__" : Str)) = false := by decide)
    : SE X c oe pn d fs (.Call (.Name "isinstance" p1) [.Name x p2, .Tuple ces j p3] [] pos) (.at_ (.b bb)) := by
  have nm : PE (X.suite c.a ((c.a, oe) :: pn)) (.Name x p2) (tVar c.i) := pe_var hN hv hd hcd
  refine pe_weak (pe_callB (call_iN T hz hf) gI mI PyProof.Rows.boot_isinstance (pa_cons nm (pa_cons (pe_tup hc) pa_nil))) fun σ H Q ⟨h1, q⟩ => ?_
  refine ⟨.ref c.a, h1.e, by rw [sizeLine_eq]; omega, fun t ht => ?_⟩
  have hx : upd H t (.tup cs) c.dd = some (.xd [(c.fl, c.v)]) := by
    rw [upd_ne (ne_of_none h1.x ht)]
    exact h1.x
  exact ⟨_, t, cs, cvs, bb, hx, rfl, upd_same, hcl, hk, q _ _ (same_new ht) rfl⟩
theorem se_fld {x : Str} {p2 : Pos} (T : ExK X.K c.C) (hz : Zc (.ref c.C) (some c.dd) oe) (hf : ∃ vs, oe.data = .fields vs) (hno : PySem.W.findIn X.K (.ref c.C) c.fl = some none)
    (hN : X.N[c.i]? = some x) (hv : Vis X.env.scope x) (hd : (x == ("__debug__" : Str)) = false := by decide) (hcd : (x == ("__classdict__" : Str)) = false := by decide)
    (hb : attributeBase (.Name x p2) c.fl X.env (eval (.Name x p2) X.env) = eval (.Name x p2) X.env := by rfl) : SE X c oe pn d fs (.Attribute (.Name x p2) c.fl pos) (.at_ .f) := by
  have nm : PE (X.suite c.a ((c.a, oe) :: pn)) (.Name x p2) (tVar c.i) := pe_var hN hv hd hcd
  refine pe_weak (pe_xf (cls := .ref c.C) (d := some c.dd) ⟨T.f_get, T.f_at, T.sub, T.dct⟩ hno hz hf nm hb) fun σ H Q ⟨h1, q⟩ => ?_
  refine ⟨.ref c.a, h1.e, rfl, rfl, c.dd, _, c.v, rfl, h1.x, ?_, q H _ (Same.refl _) rfl⟩
  simp [List.lookup]
theorem pe_cls {X : Cx} {x : Str} {a : Addr} {pos : Pos} (hg : Gl X x) (hm : X.mg x = some (.ref a)) (hd : (x == ("__debug__" : Str)) = false := by decide) : PE X (.Name x pos) (tC (.ref a)) := pe_glob hg hm rfl hd
theorem pe_typ {X : Cx} {x : Str} {n : String} {pos : Pos} (hg : Gl X x) (hm : X.mg x = none) (hv : bootBuiltins x = some (.type n)) (hn : x ≠ "__name__" := by decide) (hd : (x == ("__debug__" : Str)) = false := by decide) : PE X (.Name x pos) (tC (.ty n)) := pe_bltn hg hm hv rfl hn hd
/-! lists, tuples -/
theorem ses_nil : SEs X c oe pn d fs [] [] := pa_weak pa_nil fun σ H Q ⟨h1, q⟩ => q H [] (Same.refl _) trivial
theorem ses_cons {es : List Expr} {x : SA} {xs : List SA} (ha : SE X c oe pn d fs a (.at_ x)) (hr : SEs X c oe pn d fs es xs) (hst : starEach (a :: es) X.env = (false, eval a X.env) :: starEach es X.env := by rfl) : SEs X c oe pn d fs (a :: es) (x :: xs) :=
  pa_weak (pa_cons ha hr hst) fun σ H Q ⟨h1, q⟩ => ⟨h1, fun H1 u s1 r1 => ⟨h1.up s1, fun H2 us s2 r2 => q H2 (u :: us) (s1.trans s2) ⟨r1, r2⟩⟩⟩
theorem SAs.len {c : Cau} {d : PyData} : ∀ {us : List V} {xs : List SA}, SAs c d us xs → us.length = xs.length
  | [], [], _ => rfl
  | _ :: _, _ :: _, ⟨_, r⟩ => by rw [List.length_cons, List.length_cons, SAs.len r]
  | [], _ :: _, h => h.elim
  | _ :: _, [], h => h.elim
theorem se_lst {es : List Expr} {xs : List SA} {p2 : Pos} (h : SEs X c oe pn d fs es xs) (hl : xs.length ≤ 100 := by decide) : SE X c oe pn d fs (.List es p2) (.l xs) := pe_weak (pe_lst h) fun σ H Q ⟨h1, q⟩ => ⟨h1, fun H1 us s1 r1 => ⟨by rw [r1.len, sizeLine_eq]; omega, fun p np => q _ _ (s1.trans (same_new np)) ⟨p, us, rfl, none_back s1 np, upd_same, r1⟩⟩⟩
/-! tests -/
theorem st_val {bb : Bool} (h : SE X c oe pn d fs a (.at_ (.b bb))) (he : ∀ whole, isTrue a X.env whole = (do let v ← whole; standAt a.pos; holding [v] (truthy v)) := by intro _; rfl) : ST X c oe pn d fs a bb :=
  pt_weak (pt_val h he) fun σ H Q ⟨h1, q⟩ => ⟨h1, fun H1 u s1 r1 => ⟨bb, r1, q H1 s1⟩⟩
theorem st_not {bb b0 : Bool} (h : ST X c oe pn d fs a bb) (hq : (!bb) = b0 := by rfl) : ST X c oe pn d fs (.UnaryOp .Not a pos) b0 := by
  subst hq
  exact pt_weak (pt_not h) fun σ H Q q => q
theorem sw_and1 {bb : Bool} (h : ST X c oe pn d fs a bb) : SW X c oe pn d fs (.BoolOp .And [a] pos) bb := pw_and1 h
theorem sw_and {b1 b2 b0 : Bool} {rest : List Expr} (ha : ST X c oe pn d fs a b1) (hb : SW X c oe pn d fs (.BoolOp .And (b :: rest) pos) b2) (hq : (b1 && b2) = b0 := by rfl) : SW X c oe pn d fs (.BoolOp .And (a :: b :: rest) pos) b0 := pw_weak (pw_and ha hb) fun σ H Q ⟨h1, q⟩ => ⟨h1, fun H1 s1 => by
  subst hq
  cases b1 with
  | false => exact q H1 s1
  | true => exact ⟨h1.up s1, fun H2 s2 => q H2 (s1.trans s2)⟩⟩
theorem st_w {bb : Bool} (h : SW X c oe pn d fs e bb) : ST X c oe pn d fs e bb := h.pt
theorem pss_no {X : Cx} {sts : List Stmt} : PSs X sts (fun _ _ _ => False) := ⟨fun _ _ _ _ _ _ z => z.elim⟩
/-! statements -/
theorem sr_ret {x : SV} {rest : List Stmt} (h : SE X c oe pn d fs e x) : SR X c oe pn d fs (.Return (some e) pos :: rest) x := pss_weak (pss_cons (ps_ret h) pss_no) fun D σ H ⟨h1, q⟩ => ⟨h1, q⟩
theorem sr_ifT {x : SV} {body orelse rest : List Stmt} (hc : ST X c oe pn d fs e true) (h : SR X c oe pn d fs body x) : SR X c oe pn d fs (.If e body orelse pos :: rest) x := pss_weak (pss_cons (ps_if hc h pss_no) pss_no) fun D σ H ⟨h1, q⟩ => ⟨h1, fun H1 s1 => ⟨h1.up s1, fun H2 u s2 r2 => q H2 u (s1.trans s2) (r2.base s1)⟩⟩
end
/-! ### the whole try: its body returns, and so does the suite at each error that comes -/
structure Ent where
  C : Str
  fl : Str
  val : SV
def entAt : List Ent → Str → Str → PyData → Option PyData
  | [], _, _, _ => none
  | e :: es, C, f, d => if e.C = C ∧ e.fl = f then e.val.data d else entAt es C f d
theorem entAt_some {C f : Str} {d r : PyData} : ∀ {tb : List Ent}, entAt tb C f d = some r → ∃ e ∈ tb, e.C = C ∧ e.fl = f ∧ e.val.data d = some r
  | e :: es, h => by
    have h : (if e.C = C ∧ e.fl = f then e.val.data d else entAt es C f d) = some r := h
    split at h
    · rename_i z
      exact ⟨e, List.mem_cons_self, z.1, z.2, h⟩
    · obtain ⟨e', m, q⟩ := entAt_some h
      exact ⟨e', List.mem_cons_of_mem _ m, q⟩
def gTryX (tb : List Ent) (G : Rho → M Out) (ρ : Rho) : M Out := fun μ => match G ρ μ with
  | some (.ok (.rt s) μ') => some (.ok (.rt s) μ')
  | some (.ex ⟨c, some (g, .dat d)⟩ μ') => (entAt tb c g d).map fun r => .ok (.rt (.dat r)) μ'
  | _ => none
section
variable {K : PySem.W.Frag} {W : Wd} {H H' : Hp} {μ : Mu} {p : Addr} {o : HO}
theorem Rel.take (R : Rel K W H μ) (hy : H p = some o) (l : Loose W μ p) (nt : ∀ ps, o ≠ .tbl ps) : Rel K (W.put p o) H μ where
  sub := fun a x e => by
    have e' : upd W.S p o a = some x := e
    by_cases ha : a = p
    · subst ha
      rw [upd_same] at e'
      cases e'
      exact hy
    · rw [upd_ne ha] at e'
      exact R.sub a x e'
  obj := fun i ob e => by
    cases ob with
    | gone => trivial
    | lst xs =>
      obtain ⟨vs, h, r⟩ := R.obj i _ e
      exact ⟨vs, h, SvRs.grow0 (Wd.put_grow l.1) r⟩
  own := fun i ob e ha => by
    show upd W.S p _ (W.η i) = none
    rw [upd_ne (l.2 i ob e ha)]
    exact R.own i _ e ha
  inj := R.inj
  tab := R.tab
  sm := R.sm
  nt := fun b ps e => by
    have e' : upd W.S p o b = some (.tbl ps) := e
    by_cases hb : b = p
    · subst hb
      rw [upd_same] at e'
      cases e'
      exact nt ps rfl
    · rw [upd_ne hb] at e'
      exact R.nt b ps e'
theorem grow_sameH (s : Same H H') : Grow W H μ W H' μ := ⟨Gr0.refl _ _, fun a o e _ lo => ⟨s _ _ e, lo⟩⟩
theorem grow_take (s : Same H H') (n : H p = none) (l : W.S p = none) : Grow W H μ (W.put p o) H' μ := ⟨Wd.put_grow l, fun a x e _ lo => by
  have ap : a ≠ p := fun z => by rw [z, n] at e; cases e
  refine ⟨s _ _ e, ?_, lo.2⟩
  show upd W.S p _ a = none
  rw [upd_ne ap]
  exact lo.1⟩
theorem sa_dq {c : Cau} {d y : PyData} {u : V} (hv : Dq K H c.v d) : ∀ {x : SA}, SAr c d u x → x.data d = some y → Dq K H u y
  | .b _, r, e => by
    cases (show u = _ from r)
    cases e
    exact .bl _
  | .s _, r, e => by
    cases (show u = _ from r)
    cases e
    exact .str _
  | .n, r, e => by
    cases (show u = _ from r)
    cases e
    exact .non
  | .f, r, e => by
    cases (show u = _ from r)
    cases e
    exact hv
  | .r, r, e => by
    have e : (if okShow d = true then some (PyData.str d.shown) else none) = some y := e
    by_cases z : okShow d = true
    · rw [if_pos z] at e
      cases e
      cases r z
      exact .str _
    · rw [if_neg z] at e
      cases e
theorem sas_dq {c : Cau} {d : PyData} (hv : Dq K H c.v d) : ∀ {us : List V} {xs : List SA} {ys : List PyData}, SAs c d us xs → SA.datas d xs = some ys → Dqs K H us ys
  | [], [], _, _, e => by
    cases e
    exact .nil
  | u :: us, x :: xs, ys, ⟨r, rs⟩, e => by
    have e : ((x.data d).bind fun y => (SA.datas d xs).map (y :: ·)) = some ys := e
    cases h1 : x.data d with
    | none =>
      rw [h1] at e
      cases e
    | some y =>
      rw [h1] at e
      have e : (SA.datas d xs).map (y :: ·) = some ys := e
      cases h2 : SA.datas d xs with
      | none =>
        rw [h2] at e
        cases e
      | some zs =>
        rw [h2] at e
        cases e
        exact .cons (sa_dq hv r h1) (sas_dq hv rs h2)
  | [], _ :: _, _, h, _ => h.elim
  | _ :: _, [], _, h, _ => h.elim
theorem sv_end {c : Cau} {d r : PyData} {u : V} {E : XK} {P : V → Hp → Prop} (R : Rel K W H μ) (hv : Dq K W.S c.v d) (s : Same H H') : ∀ {x : SV}, SVr c d H H' u x → x.data d = some r →
    (∀ W' H', Grow W H μ W' H' μ → Rel K W' H' μ → ∀ v, Dq K W'.S v r → P v H') → P u H'
  | .at_ a, z, e, q => q W H' (grow_sameH s) (R.more s) u (sa_dq hv z e)
  | .l xs, ⟨p, us, eu, np, hp, rs⟩, e, q => by
    subst eu
    have e : (SA.datas d xs).map .list = some r := e
    cases h : SA.datas d xs with
    | none =>
      rw [h] at e
      cases e
    | some ys =>
      rw [h] at e
      cases e
      have lo := R.fresh np
      exact q _ H' (grow_take (o := .lst us) s np lo.1) ((R.more s).take hp lo (fun _ z => nomatch z)) _ (.lst upd_same (sas_dq (hv.mono (same_new lo.1)) rs h))
  | .t xs, ⟨p, us, eu, np, hp, rs⟩, e, q => by
    subst eu
    have e : (SA.datas d xs).map .tuple = some r := e
    cases h : SA.datas d xs with
    | none =>
      rw [h] at e
      cases e
    | some ys =>
      rw [h] at e
      cases e
      have lo := R.fresh np
      exact q _ H' (grow_take (o := .tup us) s np lo.1) ((R.more s).take hp lo (fun _ z => nomatch z)) _ (.tup (.inl (.inl upd_same)) (sas_dq (hv.mono (same_new lo.1)) rs h))
end
section
variable {X : Cx}
def tsX (K : PySem.W.Frag) (i N : Nat) (tb : List Ent) : Addr → Value → Option Addr → TS := fun a cls dd0 D σ H => ∃ en ∈ tb, ∃ C dd v d r, PySem.W.nsIn K mainGlobals en.C = some (some (.ref C)) ∧ cls = .ref C ∧ dd0 = some dd ∧ en.val.data d = some r ∧ tSR K ⟨a, dd, C, en.fl, v, i, N⟩ d [] en.val D σ H
/-- what a row of the table wants -/
def HEnt (X : L2.Cx) (CF : Addr) (i : Nat) (sts : List Stmt) (en : Ent) : Prop := ∀ C, PySem.W.nsIn X.K mainGlobals en.C = some (some (.ref C)) → PySem.W.exmOne X.K (.ref C) (.ref CF) = some true ∧ ∀ a oe dd v d pn r, Zc (.ref C) (some dd) oe → (∃ vs, oe.data = .fields vs) → en.val.data d = some r → SR X ⟨a, dd, C, en.fl, v, i, X.N.length⟩ oe pn d [] sts en.val
theorem hent_nil {CF : Addr} {i : Nat} {sts : List Stmt} : ∀ en ∈ ([] : List Ent), HEnt X CF i sts en := fun _ h => absurd h List.not_mem_nil
theorem hent_cons {CF : Addr} {i : Nat} {sts : List Stmt} {en : Ent} {tb : List Ent} (h : HEnt X CF i sts en) (r : ∀ en ∈ tb, HEnt X CF i sts en) : ∀ e ∈ en :: tb, HEnt X CF i sts e := fun e m => by
  rcases List.mem_cons.mp m with rfl | m
  · exact h
  · exact r e m
theorem ent_of {CF C0 : Addr} {i : Nat} {sts : List Stmt} {en : Ent} (nC : PySem.W.nsIn X.K mainGlobals en.C = some (some (.ref C0))) (ex : PySem.W.exmOne X.K (.ref C0) (.ref CF) = some true)
    (h : ∀ a oe dd v d pn r, Zc (.ref C0) (some dd) oe → (∃ vs, oe.data = .fields vs) → en.val.data d = some r → SR X ⟨a, dd, C0, en.fl, v, i, X.N.length⟩ oe pn d [] sts en.val) : HEnt X CF i sts en := fun C hC => by
  rw [nC] at hC
  cases hC
  exact ⟨ex, h⟩
theorem s_tryX {E : XK} {CF : Addr} {Cx n : Str} {b₀ : Stmt} {suite body : List Stmt} {tb : List Ent} {G : Rho → M Out} {np pos' post : Pos} (i : Nat)
    (gF : X.mg Cx = some (.ref CF)) (hs : X.stack = X.env :: X.outer) (hf : X.env.frame = some X.env.locals) (hN : X.N.Nodup) (hi : X.N[i]? = some n) (hln : X.env.kindOf n = some .local) (gl : Gl X Cx) (hd : (Cx == ("__debug__" : Str)) = false)
    (hent : ∀ en ∈ tb, HEnt X CF i (b₀ :: suite) en)
    (hbd : ∀ (W : WX) (pn : List (Addr × Obj)) (xe : Value → Shared → Prop), Takes (X.tr pn xe) W → PSSX (X.tr pn xe) (EW X.N.length W) body G) :
    PSX X E (.Try body [.ExceptHandler (some (.Name Cx np)) (some n) (b₀ :: suite) pos'] [] [] post) (gTryX tb G) := by
  refine ps_weak (ps_try_as (i := i) (tb := fun W => tG X.K (EW X.N.length W) G) (ts := tsX X.K i X.N.length tb) (Wout := fun _ _ _ _ => False) hs hf hN hi hln ⟨gl, hd, .inl gF⟩ takes0 (fun W pn xe tk _ => hbd W pn xe tk) (fun a oe cls d0 pn hz hfl => ⟨fun pins s σ H D I q => ?_⟩)) ?_
  · obtain ⟨en, hen, C, dd, v, d, r, hC, rfl, rfl, hr, q⟩ := q
    exact ((hent en hen C hC).2 a oe dd v d pn r hz hfl hr).run pins s σ H D I q
  intro D σ H ⟨W, ρ, μ, r, h, e, q⟩
  unfold gTryX at e
  cases eg : G ρ μ with
  | none =>
    rw [eg] at e
    cases e
  | some y =>
    rw [eg] at e
    refine ⟨W, ρ, μ, y, h, eg, ?_⟩
    cases y with
    | ok o μ' =>
      cases o with
      | rt s =>
        cases e
        exact q
      | _ => cases e
    | ex c μ' =>
      obtain ⟨c, fld⟩ := c
      cases fld with
      | none => cases e
      | some gs =>
        obtain ⟨g, s⟩ := gs
        cases s with
        | ref t => cases e
        | scr ns => cases e
        | dat d =>
          have e : (entAt tb c g d).map (fun r => Res.ok (Out.rt (.dat r)) μ') = some r := e
          cases ee : entAt tb c g d with
          | none =>
            rw [ee] at e
            cases e
          | some y =>
            rw [ee] at e
            cases e
            obtain ⟨en, hen, rfl, rfl, hval⟩ := entAt_some ee
            intro W1 H1 cls d0 g1 R1 ⟨⟨C', hC', ec⟩, dd, v1, ed, hdd, rv⟩ σ' hl
            subst ec ed
            have rv : Dq X.K W1.S v1 d := rv
            refine ⟨true, (hent en hen C' hC').1, fun _ a ha => ?_, fun z => nomatch z⟩
            refine ⟨en, hen, C', dd, v1, d, y, hC', rfl, rfl, hval, ⟨?_, fun p hp => absurd hp List.not_mem_nil, hdd, by rw [List.length_set]; exact hl, W1, μ', R1, rv⟩, fun H2 u s2 r2 => ?_⟩
            · exact List.getElem?_set_self (by rw [hl]; exact (List.getElem?_eq_some_iff.mp hi).1)
            · refine sv_end (E := E) (P := fun v H => D.rt v H) R1 rv s2 r2 hval fun W3 H3 g3 R3 v hv => ?_
              exact q W3 H3 (g1.trans g3) R3 v hv
end
end Pf

set_option maxHeartbeats 1000000
namespace Pf
open PySem PySem.Spec PyProof.Rows L2
def S.tryX (tb : List Ent) (t : S PyData) : S PyData := fun k => match t k with
  | some (.ok v, k') => some (.ok v, k')
  | some (.ex ⟨c, some (g, s)⟩, k') => (entAt tb c g s).map fun r => (.ok r, k')
  | _ => none
theorem S.tryX_ret (tb : List Ent) (v : PyData) : S.tryX tb (S.ret v) = S.ret v := by
  funext k
  rfl
theorem S.tryX_thr (tb : List Ent) {C fl : Str} {v r : PyData} (h : entAt tb C fl v = some r) : S.tryX tb (S.thr ⟨C, some (fl, v)⟩) = S.ret r := by
  funext k
  show (entAt tb C fl v).map _ = _
  rw [h]
  rfl
section
variable {l : En} {G G' : Rho → M Out} {t : S PyData} {tb : List Ent}
theorem r_tryX (h : Jd l G t pR) : Jd l (gTryX tb G) (S.tryX tb t) pR := fun k rest ρ μ e => by
  intro r k' q
  unfold S.tryX at q
  cases et : t k with
  | none =>
    rw [et] at q
    cases q
  | some y =>
    rw [et] at q
    obtain ⟨y, k1⟩ := y
    cases y with
    | ok v =>
      cases q
      obtain ⟨a, μ', h1, h2⟩ := h k rest ρ μ e _ _ et
      obtain ⟨rfl, h3⟩ := h2
      refine ⟨_, μ', ?_, rfl, h3⟩
      unfold gTryX
      rw [h1]
    | ex c =>
      obtain ⟨c, fld⟩ := c
      cases fld with
      | none => cases q
      | some gs =>
        obtain ⟨g, s⟩ := gs
        have q : (entAt tb c g s).map (fun r => (Rs.ok r, k1)) = some (r, k') := q
        cases ee : entAt tb c g s with
        | none =>
          rw [ee] at q
          cases q
        | some y =>
          rw [ee] at q
          cases q
          obtain ⟨g1, h1⟩ := h k rest ρ μ e _ _ et
          refine ⟨.rt (.dat y), _, ?_, rfl, ⟨g1, rfl⟩⟩
          unfold gTryX
          rw [h1]
          show (entAt tb c g s).map _ = _
          rw [ee]
          rfl
theorem r_tryXR (h : Jd l (gTryX tb G) t pR) : Jd l (gSeq (gTryX tb G) G') t pR := fun k rest ρ μ e => by
  intro r k' q
  have z := h k rest ρ μ e r k' q
  cases r with
  | ok v =>
    obtain ⟨a, μ', h1, h2⟩ := z
    obtain ⟨rfl, h3⟩ := h2
    refine ⟨_, μ', ?_, rfl, h3⟩
    unfold gSeq
    rw [bind_ok h1]
    rfl
  | ex c =>
    obtain ⟨g1, h1⟩ := z
    refine ⟨g1, ?_⟩
    unfold gSeq
    exact bind_ex h1
end
end Pf

set_option maxHeartbeats 1000000
namespace Pf
open PySem PySem.Spec PyProof.Rows L2
/-- self.f = e -/
theorem st_cons {X : Cx} {E : XK} {x f : Str} {px pa pos : Pos} {e : Expr} {F : Rho → M Sv} {rest : List Stmt} {fls : List (Str × (Rho → M Sv))} (ha : PX X E e F) (r : Stores X E 0 rest fls)
    (hN : X.N[0]? = some x := by rfl) (hv : Vis X.env.scope x := by first | exact Or.inl rfl | exact Or.inr (Or.inl rfl) | exact Or.inr (Or.inr rfl)) (hd : (x == ("__debug__" : Str)) = false := by decide) (hcd : (x == ("__classdict__" : Str)) = false := by decide)
    (hs : swapsWith e (some (.Attribute (.Name x px) f pa)) pos.line X.env = pure false := by rfl) : Stores X E 0 (.Assign [.Attribute (.Name x px) f pa] e pos :: rest) ((f, F) :: fls) := .cons (pe_var hN hv hd hcd) ha hs r
/-! ### methods and properties of objects that are written no more -/
section
variable {X : Cx} {CX : CXT} {k j n : Nat} {C f : Addr} {fd : FuncData} {ps : List Str} {E : XK} {nm m : Str} {p pos apos : Pos} {e o : Expr} {es : List Expr} {Fo : Rho → M Sv} {Fs : Rho → M (List Sv)} {Fm : List Sv → M Sv}
end
/-! ### properties that hand a field out -/
/-- the property f of the class: its getter returns self.g -/
structure PropZ (K : PySem.W.Frag) (nm f g : Str) (C : Addr) : Prop where
  nC : PySem.W.nsIn K mainGlobals nm = some (some (.ref C))
  ex : ∃ p ga, PropOf K C f p ga ∧ ∃ (oc : Value) (od : Option Addr) (name qual : Str) (params : Arguments) (body : List Stmt) (scope : Scope) (dV kV doc pm : Value) (an : Option Addr) (cdv ct : Value) (osl : Array (Option Value)),
    K.lookup ga = some ⟨oc, od, .func (PySem.W.fnOf name qual params body scope dV kV doc pm an cdv ct), osl⟩ ∧ PySem.W.codeIn K cdv qual = true ∧ FnScope ["self"] ["self"] scope ∧ (∃ p1 p2 p3, body = [.Return (some (.Attribute (.Name "self" p1) g p2)) p3]) ∧ Binds K (PySem.W.fnOf name qual params body scope dV kV doc pm an cdv ct) ["self"] []
section
variable {X : Cx} {E : XK} {k : Nat} {C : Addr} {nm f g : Str} {pos : Pos} {e : Expr} {Fa : Rho → M Sv}
end
end Pf

set_option maxHeartbeats 1000000
namespace Pf
open PySem PySem.Spec PyProof.Rows L2
section
variable {l l1 l2 : En} {Fa : Rho → M Sv} {ta : S PyData} {Fs : Rho → M (List Sv)} {ts : S (List PyData)}
theorem n_raise {σ : Type} {C f : Str} {e' : σ → En} (h : Jd l Fa ta (pV l1)) {G : Rho → M Out} (hG : G = fun ρ => (Fa ρ).bind fun s => M.thr ⟨C, some (f, s)⟩) : Jd l G (ta.bind fun d => S.thr ⟨C, some (f, d)⟩) (pN e') := r_raiseP h hG
end
end Pf

namespace Pf
open PySem PySem.Spec PyProof.Rows L2
namespace Err_BadTree
/-! ### an error of the program's own, with one field -/
section
open PySem.W PySem.Calls PySem.HandSPX
def tlArgs (a b : Pos) : Arguments := { vararg := none, kwarg := none, posonlyargs := [], kwonlyargs := [], kw_defaults := [], defaults := [], args := [{ arg := "self", annotation := none, pos := a }, { arg := "error", annotation := none, pos := b }] }
def tlBody (a b c d : Pos) : List Stmt := [.Assign [.Attribute (.Name "self" a) "error" b] (.Name "error" c) d]
def tlScope : Scope := { isGenerator := false, isCoroutine := false, more := [], kind := .function, names := [(PySem.Str.ofString "self", .local), (PySem.Str.ofString "error", .local)] }
/-- what stands of the class, at C, its __init__ at f -/
structure TL (K : Frag) (mg : Str → Option Value) (C f : Addr) : Prop where
  nC : nsIn K mainGlobals "BadTree" = some (some (.ref C))
  gC : mg "BadTree" = some (.ref C)
  ob : ∃ nm q N bs bm sn sub ab col dd m0 m1 m2 m3 m5, K.lookup C = some (excClassObj nm q C N bs bm true sn sub ab col dd m0 m1 m2 m3 m5 "ValueError.__new__") ∧ refsVE bm = true
  f_set : findIn K (.ref C) "__setattr__" = some (some (.builtin "object.__setattr__"))
  f_get : findIn K (.ref C) "__getattribute__" = some (some (.builtin "BaseException.__getattribute__"))
  f_at : findIn K (.ref C) "__getattr__" = some none
  f_fld : findIn K (.ref C) "error" = some none
  f_ini : findIn K (.ref C) "__init__" = some (some (.ref f))
  f_cls : findIn K (.ref C) "__class__" = some (some (.builtin "object.__class__"))
  s_get : specialIn K (.builtin "object.__class__") "__get__" = some (some (.builtin "getset_descriptor.__get__"))
  tk : takesIn K (.builtin "object.__class__") = some true
  mro : mroIn K C (.type "object") = some true
  tyF : typeIn K (.ref f) = some (.type "function")
  kp : keepIn K (.ref C) = true
  sub : subIn K (.ref C) (.type "BaseException") = some true
  tyC : typeIn K (.ref C) = some (.type "type")
  dct : hasDictIn K C = true
  fn : ∃ (oc : Value) (od : Option Addr) (kV doc pm : Value) (an : Option Addr) (cdv ct : Value) (osl : Array (Option Value)) (p1 p2 q1 q2 q3 q4 : Pos),
    K.lookup f = some ⟨oc, od, .func (fnOf "__init__" "BadTree.__init__" (tlArgs p1 p2) (tlBody q1 q2 q3 q4) tlScope .none kV doc pm an cdv ct), osl⟩ ∧ codeIn K cdv "BadTree.__init__" = true
theorem sz_one (v : Value) : [v].length ≤ sizeLine := by
  rw [sizeLine_eq]
  show 1 ≤ 16777216
  decide
theorem ld_param {M : Model} {s : Shared} {nm : Str} {sc : Scope} {L a : Addr} {cdv : Value} {m : Str → Option Value} {y : Str} {pos : Pos} {v : Value} {Q : Value → Shared → Prop} {A : Around} {E : Value → Shared → Prop} (hn : s.heap.Ns L m) (hv : m y = some v) (h : Q v s)
    (hk : sc.kind = .function := by rfl) (hl : (envOfC nm sc L a cdv).kindOf y = some .local := by rfl) (hd : (y == ("__debug__" : Str)) = false := by decide) : wpAny M A (eval (.Name y pos) (envOfC nm sc L a cdv)) Q E s := by
  refine wpAny_Name (wpAny_loadName_local hk hl hn hv h) hd
/-- behind __init__ -/
structure TlEnd (h h' : Heap) (x C dx t1 : Addr) (v : Value) : Prop where
  rest : ∀ b o, b ≠ x → h.get? b = some o → h'.get? b = some o
  self : h'.get? x = some { cls := .ref C, data := .fields #[.ref t1, .none, .none, .none, .bool false, .none], dict := some dx }
  late : h.objs.size ≤ dx
  apart : dx ≠ x
  fld : h'.Ns1 dx (fun y => if y = "error" then some v else none)
/-- behind the making -/
structure TlMade (h h' : Heap) (e C d : Addr) (v : Value) : Prop where
  rest : ∀ b o, h.get? b = some o → h'.get? b = some o
  new : h.objs.size ≤ e
  self : ∃ oe vs, h'.get? e = some oe ∧ oe.cls = .ref C ∧ oe.dict = some d ∧ oe.data = .fields vs ∧ vs[1]? = some .none
  late : h.objs.size ≤ d
  apart : d ≠ e
  fld : h'.Ns1 d (fun y => if y = "error" then some v else none)
variable {prog : Program} {w : World} {A : Around} {E : Value → Shared → Prop} {R : Result → Shared → Prop} {s : Shared} {K : Frag} {mg : Str → Option Value} {C f : Addr}
theorem tl_init (T : TL K mg C f) {x t0 : Addr} {v : Value} (X : K.In s.heap) (lim : s.heap.NoLimit) (hx : s.heap.get? x = some (excO C t0)) (room : A.depth < recursionLimit)
    (fin : ∀ h' tk dx, TlEnd s.heap h' x C dx t0 v → R (.ok (.ret .none)) { s with heap := h', toks := tk }) : codeAny (model prog w) A (.call (.ref f) ⟨[.ref x, v], []⟩) R s := by
  obtain ⟨oc, od, kV, doc, pm, an, cdv, ct, osl, p1, p2, q1, q2, q3, q4, ho, hcd⟩ := T.fn
  obtain ⟨nm, q, N, bs, bm, sn, sub, ab, col, dd, m0, m1, m2, m3, m5, hC, hbm⟩ := T.ob
  have cd : clsIn K C = some { name := nm, bases := bs, mro := .ref C :: bm, ns := N, qualname := q, hasDict := true, slotNames := sn, subclasses := sub, abstract := ab, collection := col, hasDel := false } := by
    unfold clsIn
    rw [hC] <;> rfl
  refine Att.call_fn (binds := [("self", .ref x), ("error", v)]) X lim ho hcd room (BindsTo.of_eq (by first | rfl | with_unfolding_all rfl)) (by first | rfl | decide | with_unfolding_all rfl) (fun s₁ ic => ?_) rfl rfl rfl
  obtain ⟨h₁, tk₁, rfl⟩ := ic.toInCall.same
  have keep := ic.toInCall.keep
  have ns := ic.toInCall.ns
  have X₁ : K.In h₁ := X.keeps keep
  have hx₁ := keep _ _ hx
  show wpAny _ _ (execs _ _) _ _ _
  refine wpAny_execs_cons (plainObj_wpAny_Assign_Attribute (ld_param (v := v) ns (by first | rfl | with_unfolding_all rfl | kernel_rfl) (ld_param (v := .ref x) ns (by first | rfl | with_unfolding_all rfl | kernel_rfl) ?_)))
  refine set_plain X₁ (ox := excO C t0) (od := none) ⟨hx₁, rfl, rfl, trivial⟩ T.f_set (exc_osa X₁ hx₁ cd (show refsVE (.ref C :: bm) = true from hbm) rfl T.f_fld (fun h₃ tk₃ dx k₃ dn dne hx₃ hn₃ => ?_))
  have lt : s.heap.objs.size < h₁.objs.size := ns.lt
  show wpAny _ _ (execs _ _) _ _ _
  exact wpAny_execs_nil (fin h₃ tk₃ dx ⟨fun b o hb e => k₃ b o hb (keep b o e), hx₃, Nat.le_of_lt (Nat.lt_of_lt_of_le lt dn), dne, hn₃⟩)
theorem tl_made (T : TL K mg C f) {v : Value} (X : K.In s.heap) (lim : s.heap.NoLimit) (room : A.depth + 1 < recursionLimit) (fin : ∀ h' tk e d, TlMade s.heap h' e C d v → R (.ok (.ret (.ref e))) { s with heap := h', toks := tk }) :
    codeAny (model prog w) A (.call (.ref C) ⟨[v], []⟩) R s := by
  obtain ⟨nm, q, N, bs, bm, sn, sub, ab, col, dd, m0, m1, m2, m3, m5, hC, hbm⟩ := T.ob
  obtain ⟨hp, g, dr, tk, os⟩ := s
  have keep : ∀ b o, hp.get? b = some o → ((hp.push (kdv_tup [v])).push (excO C hp.objs.size)).get? b = some o := fun b o e => Heap.get?_push_of_some _ (Heap.get?_push_of_some _ e)
  have at_ : ((hp.push (kdv_tup [v])).push (excO C hp.objs.size)).get? (hp.objs.size + 1) = some (excO C hp.objs.size) := by heap_get
  refine call_own F.excBase_ValueError (fun Y => refsVE_contains Y bm hbm) (X _ _ hC) (looks_findIn X T.f_ini) (fun self => bind_fn X self T.tyF) (sz_one v) ?_
  refine tl_init (s := ⟨(hp.push (kdv_tup [v])).push (excO C hp.objs.size), g, dr, tk, os⟩) T (X.keeps keep) (lim.keeps keep) at_ (show A.depth + 1 < recursionLimit from room) fun h' tk' dx ⟨k', hx, dn, dne, hns⟩ => ?_
  have old : ∀ b o, hp.get? b = some o → h'.get? b = some o := fun b o e => k' b o (Nat.ne_of_lt (Nat.lt_succ_of_lt (Heap.lt_size e))) (keep b o e)
  have z : hp.objs.size + 1 + 1 ≤ dx := by
    first
      | (simpa only [Heap.size_push] using dn)
      | exact dn
      | (have q := dn; rw [Heap.size_push, Heap.size_push] at q; exact q)
  refine ⟨rfl, fin h' tk' (hp.objs.size + 1) dx ⟨old, Nat.le_succ _, ⟨_, _, hx, rfl, rfl, rfl, rfl⟩, Nat.le_trans (Nat.le_trans (Nat.le_succ _) (Nat.le_succ _)) z, dne, hns⟩⟩
end
theorem rel_bound {v : V} {v' : Value} (r : RelV v v') (g : Str) : RelO (List.lookup g [(("error" : Str), v)]) (if g = "error" then some v' else none) := by
  by_cases h : g = "error"
  · subst h
    rw [if_pos rfl, show List.lookup ("error" : Str) [(("error" : Str), v)] = some v by simp [List.lookup]]
    exact r
  · rw [if_neg h, show List.lookup g [(("error" : Str), v)] = none by
      have n : (g == ("error" : Str)) = false := by simpa using h
      simp [List.lookup, n]]
    trivial
section
variable {X : Cx} {E : XK} {C f : Addr} {k : Nat} {a e : Expr} {es : List Expr} {Fa : Rho → M Sv} {Fs Fk : Rho → M (List Sv)} {p pos pos2 : Pos}
def mkTl (C : Addr) (ta : TA) : L2.St → Hp → XK → Prop := fun σ H Q => ta σ H fun vs H1 => ∃ v, vs = [v] ∧ ∀ d, H1 d = none → Q (.ref C) (some d) (upd H1 d (.xd [(("error" : Str), v)]))
theorem pmk_tl {ta : TA} (T : TL X.K X.mg C f) (hr : Room k X.A) (ha : PA X [a] ta) (hg : Gl X "BadTree" := by rfl) (he : starEach (a :: []) X.env = (false, eval a X.env) :: starEach [] X.env := by rfl) (hpl : (backTo pos (starEach [] X.env)).any (·.1) = false := by rfl) :
    PMk X (.Call (.Name "BadTree" p) [a] [] pos) (mkTl C ta) := by
  intro pins s σ H Q I h
  refine wpAny_Call_Name_kw (ld_glob I hg T.gC (PySem.W.callWith_K (h₀ := X.base) I.ok.mod.kin T.kp (thn (ha.run pos pins s σ H _ I h) fun us s1 ⟨vs, H1, I1, r1, v, ev, q1⟩ => ⟨I1.kIn, ?_⟩) he hpl))
  subst ev
  obtain ⟨u, rfl, rv⟩ := vals1 r1
  show wpAny _ _ (call (.ref C) [u]) _ _ _
  have lim := I1.nolimit
  obtain ⟨hp, g, dr, tk, os⟩ := s1
  refine wpAny_call (tl_made T I1.kIn lim (by have := hr.dp; omega) fun h' tk' e d mk => ?_)
  show MkP X pins σ Q (.ref e) ⟨h', g, dr, tk', os⟩
  obtain ⟨oe, fv, hoe, hc, hd, hdat, h1⟩ := mk.self
  obtain ⟨G, g1, g2⟩ := restrict h' fun b => decide (b ≠ e)
  have gk : ∀ b, b ≠ e → G.get? b = h'.get? b := fun b hb => g1 b (decide_eq_true hb)
  have ge : G.get? e = none := g2 e (by simp)
  have old : ∀ b o, hp.get? b = some o → G.get? b = some o := fun b o q => (gk b (Nat.ne_of_lt (Nat.lt_of_lt_of_le (Heap.lt_size q) mk.new))).trans (mk.rest b o q)
  have ob : ObjOk X.prog X.w (upd H1 d (.xd [(("error" : Str), v)])) G d (.xd [(("error" : Str), v)]) := ⟨_, mk.fld.at (fun o q => (gk d mk.apart).trans q), fun g => rel_bound rv g⟩
  have J : Inv X pins σ (upd H1 d (.xd [(("error" : Str), v)])) ⟨G, g, dr, tk', os⟩ := I1.laid (t' := tk') old mk.late ob
  have none_e : upd H1 d (.xd [(("error" : Str), v)]) e = none := by
    rw [upd_ne (Ne.symm mk.apart)]
    exact I1.hok.fresh mk.new
  refine ⟨e, oe, fv, ⟨G, g, dr, tk', os⟩, _, .ref C, some d, rfl, J, fun b o q => ?_, ge, hoe, ⟨hc, hd⟩, hdat, h1, none_e, rfl, I1.bare, raises_own T.sub T.tyC, q1 d (I1.hok.fresh mk.late)⟩
  have q0 : G.get? b = some o := q
  have hb : b ≠ e := fun z => by
    rw [z, ge] at q0
    cases q0
  exact (gk b hb).symm.trans q0
def gRaise (Fa : Rho → M Sv) (ρ : Rho) : M Out := (Fa ρ).bind fun s => M.thr ⟨"BadTree", some ("error", s)⟩
theorem s_raise (T : TL X.K X.mg C f) (hc : X.calm = true) (hr : Room k X.A) (tk : Takes X (fun cls d _ H => E cls d H)) (ha : PX X E a Fa) (hg : Gl X "BadTree" := by rfl) (he : starEach (a :: []) X.env = (false, eval a X.env) :: starEach [] X.env := by rfl) (hpl : (backTo pos (starEach [] X.env)).any (·.1) = false := by rfl) :
    PSX X E (.Raise (some (.Call (.Name "BadTree" p) [a] [] pos)) none pos2) (gRaise Fa) := ps_weak (ps_raise hc tk (pmk_tl T hr (pa_cons ha pa_nil he) hg he hpl)) fun D σ H ⟨W, ρ, μ, r, h, e, q⟩ => by
  refine tX_bind h e q fun v s W1 H1 μ1 g1 h1 rs e1 q1 => ⟨v, rfl, fun d hd => ?_⟩
  cases e1
  exact q1 W1 _ (.ref C) (some d) ((Grow.refl _ _ _).out hd fun b hb => upd_ne hb) (h1.rel.lay hd) ⟨⟨C, T.nC, rfl⟩, d, v, rfl, upd_same, rs⟩
end
end Err_BadTree
end Pf

namespace Pf
open PySem PySem.Spec PyProof.Rows L2
namespace Err_BadTable
/-! ### an error of the program's own, with one field -/
section
open PySem.W PySem.Calls PySem.HandSPX
def tlArgs (a b : Pos) : Arguments := { vararg := none, kwarg := none, posonlyargs := [], kwonlyargs := [], kw_defaults := [], defaults := [], args := [{ arg := "self", annotation := none, pos := a }, { arg := "value", annotation := none, pos := b }] }
def tlBody (a b c d : Pos) : List Stmt := [.Assign [.Attribute (.Name "self" a) "value" b] (.Name "value" c) d]
def tlScope : Scope := { isGenerator := false, isCoroutine := false, more := [], kind := .function, names := [(PySem.Str.ofString "self", .local), (PySem.Str.ofString "value", .local)] }
/-- what stands of the class, at C, its __init__ at f -/
structure TL (K : Frag) (mg : Str → Option Value) (C f : Addr) : Prop where
  nC : nsIn K mainGlobals "BadTable" = some (some (.ref C))
  gC : mg "BadTable" = some (.ref C)
  ob : ∃ nm q N bs bm sn sub ab col dd m0 m1 m2 m3 m5, K.lookup C = some (excClassObj nm q C N bs bm true sn sub ab col dd m0 m1 m2 m3 m5 "ValueError.__new__") ∧ refsVE bm = true
  f_set : findIn K (.ref C) "__setattr__" = some (some (.builtin "object.__setattr__"))
  f_get : findIn K (.ref C) "__getattribute__" = some (some (.builtin "BaseException.__getattribute__"))
  f_at : findIn K (.ref C) "__getattr__" = some none
  f_fld : findIn K (.ref C) "value" = some none
  f_ini : findIn K (.ref C) "__init__" = some (some (.ref f))
  f_cls : findIn K (.ref C) "__class__" = some (some (.builtin "object.__class__"))
  s_get : specialIn K (.builtin "object.__class__") "__get__" = some (some (.builtin "getset_descriptor.__get__"))
  tk : takesIn K (.builtin "object.__class__") = some true
  mro : mroIn K C (.type "object") = some true
  tyF : typeIn K (.ref f) = some (.type "function")
  kp : keepIn K (.ref C) = true
  sub : subIn K (.ref C) (.type "BaseException") = some true
  tyC : typeIn K (.ref C) = some (.type "type")
  dct : hasDictIn K C = true
  fn : ∃ (oc : Value) (od : Option Addr) (kV doc pm : Value) (an : Option Addr) (cdv ct : Value) (osl : Array (Option Value)) (p1 p2 q1 q2 q3 q4 : Pos),
    K.lookup f = some ⟨oc, od, .func (fnOf "__init__" "BadTable.__init__" (tlArgs p1 p2) (tlBody q1 q2 q3 q4) tlScope .none kV doc pm an cdv ct), osl⟩ ∧ codeIn K cdv "BadTable.__init__" = true
theorem sz_one (v : Value) : [v].length ≤ sizeLine := by
  rw [sizeLine_eq]
  show 1 ≤ 16777216
  decide
theorem ld_param {M : Model} {s : Shared} {nm : Str} {sc : Scope} {L a : Addr} {cdv : Value} {m : Str → Option Value} {y : Str} {pos : Pos} {v : Value} {Q : Value → Shared → Prop} {A : Around} {E : Value → Shared → Prop} (hn : s.heap.Ns L m) (hv : m y = some v) (h : Q v s)
    (hk : sc.kind = .function := by rfl) (hl : (envOfC nm sc L a cdv).kindOf y = some .local := by rfl) (hd : (y == ("__debug__" : Str)) = false := by decide) : wpAny M A (eval (.Name y pos) (envOfC nm sc L a cdv)) Q E s := by
  refine wpAny_Name (wpAny_loadName_local hk hl hn hv h) hd
/-- behind __init__ -/
structure TlEnd (h h' : Heap) (x C dx t1 : Addr) (v : Value) : Prop where
  rest : ∀ b o, b ≠ x → h.get? b = some o → h'.get? b = some o
  self : h'.get? x = some { cls := .ref C, data := .fields #[.ref t1, .none, .none, .none, .bool false, .none], dict := some dx }
  late : h.objs.size ≤ dx
  apart : dx ≠ x
  fld : h'.Ns1 dx (fun y => if y = "value" then some v else none)
/-- behind the making -/
structure TlMade (h h' : Heap) (e C d : Addr) (v : Value) : Prop where
  rest : ∀ b o, h.get? b = some o → h'.get? b = some o
  new : h.objs.size ≤ e
  self : ∃ oe vs, h'.get? e = some oe ∧ oe.cls = .ref C ∧ oe.dict = some d ∧ oe.data = .fields vs ∧ vs[1]? = some .none
  late : h.objs.size ≤ d
  apart : d ≠ e
  fld : h'.Ns1 d (fun y => if y = "value" then some v else none)
variable {prog : Program} {w : World} {A : Around} {E : Value → Shared → Prop} {R : Result → Shared → Prop} {s : Shared} {K : Frag} {mg : Str → Option Value} {C f : Addr}
theorem tl_init (T : TL K mg C f) {x t0 : Addr} {v : Value} (X : K.In s.heap) (lim : s.heap.NoLimit) (hx : s.heap.get? x = some (excO C t0)) (room : A.depth < recursionLimit)
    (fin : ∀ h' tk dx, TlEnd s.heap h' x C dx t0 v → R (.ok (.ret .none)) { s with heap := h', toks := tk }) : codeAny (model prog w) A (.call (.ref f) ⟨[.ref x, v], []⟩) R s := by
  obtain ⟨oc, od, kV, doc, pm, an, cdv, ct, osl, p1, p2, q1, q2, q3, q4, ho, hcd⟩ := T.fn
  obtain ⟨nm, q, N, bs, bm, sn, sub, ab, col, dd, m0, m1, m2, m3, m5, hC, hbm⟩ := T.ob
  have cd : clsIn K C = some { name := nm, bases := bs, mro := .ref C :: bm, ns := N, qualname := q, hasDict := true, slotNames := sn, subclasses := sub, abstract := ab, collection := col, hasDel := false } := by
    unfold clsIn
    rw [hC] <;> rfl
  refine Att.call_fn (binds := [("self", .ref x), ("value", v)]) X lim ho hcd room (BindsTo.of_eq (by first | rfl | with_unfolding_all rfl)) (by first | rfl | decide | with_unfolding_all rfl) (fun s₁ ic => ?_) rfl rfl rfl
  obtain ⟨h₁, tk₁, rfl⟩ := ic.toInCall.same
  have keep := ic.toInCall.keep
  have ns := ic.toInCall.ns
  have X₁ : K.In h₁ := X.keeps keep
  have hx₁ := keep _ _ hx
  show wpAny _ _ (execs _ _) _ _ _
  refine wpAny_execs_cons (plainObj_wpAny_Assign_Attribute (ld_param (v := v) ns (by first | rfl | with_unfolding_all rfl | kernel_rfl) (ld_param (v := .ref x) ns (by first | rfl | with_unfolding_all rfl | kernel_rfl) ?_)))
  refine set_plain X₁ (ox := excO C t0) (od := none) ⟨hx₁, rfl, rfl, trivial⟩ T.f_set (exc_osa X₁ hx₁ cd (show refsVE (.ref C :: bm) = true from hbm) rfl T.f_fld (fun h₃ tk₃ dx k₃ dn dne hx₃ hn₃ => ?_))
  have lt : s.heap.objs.size < h₁.objs.size := ns.lt
  show wpAny _ _ (execs _ _) _ _ _
  exact wpAny_execs_nil (fin h₃ tk₃ dx ⟨fun b o hb e => k₃ b o hb (keep b o e), hx₃, Nat.le_of_lt (Nat.lt_of_lt_of_le lt dn), dne, hn₃⟩)
theorem tl_made (T : TL K mg C f) {v : Value} (X : K.In s.heap) (lim : s.heap.NoLimit) (room : A.depth + 1 < recursionLimit) (fin : ∀ h' tk e d, TlMade s.heap h' e C d v → R (.ok (.ret (.ref e))) { s with heap := h', toks := tk }) :
    codeAny (model prog w) A (.call (.ref C) ⟨[v], []⟩) R s := by
  obtain ⟨nm, q, N, bs, bm, sn, sub, ab, col, dd, m0, m1, m2, m3, m5, hC, hbm⟩ := T.ob
  obtain ⟨hp, g, dr, tk, os⟩ := s
  have keep : ∀ b o, hp.get? b = some o → ((hp.push (kdv_tup [v])).push (excO C hp.objs.size)).get? b = some o := fun b o e => Heap.get?_push_of_some _ (Heap.get?_push_of_some _ e)
  have at_ : ((hp.push (kdv_tup [v])).push (excO C hp.objs.size)).get? (hp.objs.size + 1) = some (excO C hp.objs.size) := by heap_get
  refine call_own F.excBase_ValueError (fun Y => refsVE_contains Y bm hbm) (X _ _ hC) (looks_findIn X T.f_ini) (fun self => bind_fn X self T.tyF) (sz_one v) ?_
  refine tl_init (s := ⟨(hp.push (kdv_tup [v])).push (excO C hp.objs.size), g, dr, tk, os⟩) T (X.keeps keep) (lim.keeps keep) at_ (show A.depth + 1 < recursionLimit from room) fun h' tk' dx ⟨k', hx, dn, dne, hns⟩ => ?_
  have old : ∀ b o, hp.get? b = some o → h'.get? b = some o := fun b o e => k' b o (Nat.ne_of_lt (Nat.lt_succ_of_lt (Heap.lt_size e))) (keep b o e)
  have z : hp.objs.size + 1 + 1 ≤ dx := by
    first
      | (simpa only [Heap.size_push] using dn)
      | exact dn
      | (have q := dn; rw [Heap.size_push, Heap.size_push] at q; exact q)
  refine ⟨rfl, fin h' tk' (hp.objs.size + 1) dx ⟨old, Nat.le_succ _, ⟨_, _, hx, rfl, rfl, rfl, rfl⟩, Nat.le_trans (Nat.le_trans (Nat.le_succ _) (Nat.le_succ _)) z, dne, hns⟩⟩
end
theorem rel_bound {v : V} {v' : Value} (r : RelV v v') (g : Str) : RelO (List.lookup g [(("value" : Str), v)]) (if g = "value" then some v' else none) := by
  by_cases h : g = "value"
  · subst h
    rw [if_pos rfl, show List.lookup ("value" : Str) [(("value" : Str), v)] = some v by simp [List.lookup]]
    exact r
  · rw [if_neg h, show List.lookup g [(("value" : Str), v)] = none by
      have n : (g == ("value" : Str)) = false := by simpa using h
      simp [List.lookup, n]]
    trivial
section
variable {X : Cx} {E : XK} {C f : Addr} {k : Nat} {a e : Expr} {es : List Expr} {Fa : Rho → M Sv} {Fs Fk : Rho → M (List Sv)} {p pos pos2 : Pos}
def mkTl (C : Addr) (ta : TA) : L2.St → Hp → XK → Prop := fun σ H Q => ta σ H fun vs H1 => ∃ v, vs = [v] ∧ ∀ d, H1 d = none → Q (.ref C) (some d) (upd H1 d (.xd [(("value" : Str), v)]))
theorem pmk_tl {ta : TA} (T : TL X.K X.mg C f) (hr : Room k X.A) (ha : PA X [a] ta) (hg : Gl X "BadTable" := by rfl) (he : starEach (a :: []) X.env = (false, eval a X.env) :: starEach [] X.env := by rfl) (hpl : (backTo pos (starEach [] X.env)).any (·.1) = false := by rfl) :
    PMk X (.Call (.Name "BadTable" p) [a] [] pos) (mkTl C ta) := by
  intro pins s σ H Q I h
  refine wpAny_Call_Name_kw (ld_glob I hg T.gC (PySem.W.callWith_K (h₀ := X.base) I.ok.mod.kin T.kp (thn (ha.run pos pins s σ H _ I h) fun us s1 ⟨vs, H1, I1, r1, v, ev, q1⟩ => ⟨I1.kIn, ?_⟩) he hpl))
  subst ev
  obtain ⟨u, rfl, rv⟩ := vals1 r1
  show wpAny _ _ (call (.ref C) [u]) _ _ _
  have lim := I1.nolimit
  obtain ⟨hp, g, dr, tk, os⟩ := s1
  refine wpAny_call (tl_made T I1.kIn lim (by have := hr.dp; omega) fun h' tk' e d mk => ?_)
  show MkP X pins σ Q (.ref e) ⟨h', g, dr, tk', os⟩
  obtain ⟨oe, fv, hoe, hc, hd, hdat, h1⟩ := mk.self
  obtain ⟨G, g1, g2⟩ := restrict h' fun b => decide (b ≠ e)
  have gk : ∀ b, b ≠ e → G.get? b = h'.get? b := fun b hb => g1 b (decide_eq_true hb)
  have ge : G.get? e = none := g2 e (by simp)
  have old : ∀ b o, hp.get? b = some o → G.get? b = some o := fun b o q => (gk b (Nat.ne_of_lt (Nat.lt_of_lt_of_le (Heap.lt_size q) mk.new))).trans (mk.rest b o q)
  have ob : ObjOk X.prog X.w (upd H1 d (.xd [(("value" : Str), v)])) G d (.xd [(("value" : Str), v)]) := ⟨_, mk.fld.at (fun o q => (gk d mk.apart).trans q), fun g => rel_bound rv g⟩
  have J : Inv X pins σ (upd H1 d (.xd [(("value" : Str), v)])) ⟨G, g, dr, tk', os⟩ := I1.laid (t' := tk') old mk.late ob
  have none_e : upd H1 d (.xd [(("value" : Str), v)]) e = none := by
    rw [upd_ne (Ne.symm mk.apart)]
    exact I1.hok.fresh mk.new
  refine ⟨e, oe, fv, ⟨G, g, dr, tk', os⟩, _, .ref C, some d, rfl, J, fun b o q => ?_, ge, hoe, ⟨hc, hd⟩, hdat, h1, none_e, rfl, I1.bare, raises_own T.sub T.tyC, q1 d (I1.hok.fresh mk.late)⟩
  have q0 : G.get? b = some o := q
  have hb : b ≠ e := fun z => by
    rw [z, ge] at q0
    cases q0
  exact (gk b hb).symm.trans q0
def gRaise (Fa : Rho → M Sv) (ρ : Rho) : M Out := (Fa ρ).bind fun s => M.thr ⟨"BadTable", some ("value", s)⟩
theorem s_raise (T : TL X.K X.mg C f) (hc : X.calm = true) (hr : Room k X.A) (tk : Takes X (fun cls d _ H => E cls d H)) (ha : PX X E a Fa) (hg : Gl X "BadTable" := by rfl) (he : starEach (a :: []) X.env = (false, eval a X.env) :: starEach [] X.env := by rfl) (hpl : (backTo pos (starEach [] X.env)).any (·.1) = false := by rfl) :
    PSX X E (.Raise (some (.Call (.Name "BadTable" p) [a] [] pos)) none pos2) (gRaise Fa) := ps_weak (ps_raise hc tk (pmk_tl T hr (pa_cons ha pa_nil he) hg he hpl)) fun D σ H ⟨W, ρ, μ, r, h, e, q⟩ => by
  refine tX_bind h e q fun v s W1 H1 μ1 g1 h1 rs e1 q1 => ⟨v, rfl, fun d hd => ?_⟩
  cases e1
  exact q1 W1 _ (.ref C) (some d) ((Grow.refl _ _ _).out hd fun b hb => upd_ne hb) (h1.rel.lay hd) ⟨⟨C, T.nC, rfl⟩, d, v, rfl, upd_same, rs⟩
end
end Err_BadTable
end Pf

set_option maxHeartbeats 1000000
namespace Pf
open PySem PySem.Spec PyProof.Rows L2
/-! ### zip of any number of tuples and lists, the tuple being held by a name -/
structure ZN (prog : Program) (w : World) (A : Around) (z TI TO : Addr) (js : List Addr) (fp : Nat → List Addr) (P : Nat → Value → Prop) (St St' : Nat → Heap → Prop) : Prop where
  item : ∀ k j, js[k]? = some j → ∀ (s : Shared) (Q E : Value → Shared → Prop), St k s.heap → (∀ x h' tk, P k x → St' k h' → Heap.SameBut j s.heap h' → Q x { heap := h', gens := s.gens, drawn := s.drawn, toks := tk, os := s.os }) → wpAny (model prog w) A (Builtin.SmallTypes.nextOf (.ref j)) Q E s
  keep : ∀ k h h', St k h → (∀ b ∈ fp k, ∀ o, h.get? b = some o → h'.get? b = some o) → St k h'
  keep' : ∀ k h h', St' k h → (∀ b ∈ fp k, ∀ o, h.get? b = some o → h'.get? b = some o) → St' k h'
  zf : ∀ k, z ∉ fp k
  Tf : ∀ k, TO ∉ fp k
  jf : ∀ k l j, js[l]? = some j → l ≠ k → j ∉ fp k
  TIz : TI ≠ z
  TITO : TI ≠ TO
  TIj : TI ∉ js
  TOz : TO ≠ z
  zj : z ∉ js
  TOj : TO ∉ js
structure Zm (js : List Addr) (St St' : Nat → Heap → Prop) (z TO : Addr) (m : Nat) (s0 s : Shared) : Prop where
  lo : ∀ k, k < m → k < js.length → St' k s.heap
  hi : ∀ k, m ≤ k → k < js.length → St k s.heap
  sz : s.heap.objs.size = s0.heap.objs.size
  fr : ∀ c, c ≠ z → c ≠ TO → c ∉ js → s.heap.get? c = s0.heap.get? c
  gn : s.gens = s0.gens
  dr : s.drawn = s0.drawn
  os : s.os = s0.os
section
variable {prog : Program} {w : World} {A : Around} {z TI TO : Addr} {js : List Addr} {fp : Nat → List Addr} {P : Nat → Value → Prop} {St St' : Nat → Heap → Prop}
end
/-! ### the walk -/
structure ZApart (z TI TO : Addr) (js : List Addr) (cs : List (Bool × Addr)) : Prop where
  len : js.length = cs.length
  ne : js ≠ []
  sz : js.length ≤ 1000
  nd : ∀ (k l : Nat) (j : Addr), js[k]? = some j → js[l]? = some j → k = l
  TIz : TI ≠ z
  TITO : TI ≠ TO
  TIj : TI ∉ js
  TOz : TO ≠ z
  zj : z ∉ js
  TOj : TO ∉ js
  cz : ∀ c ∈ cs, c.2 ≠ z ∧ c.2 ≠ TI ∧ c.2 ≠ TO ∧ c.2 ∉ js
end Pf

set_option maxHeartbeats 1000000
namespace Pf
open PySem PySem.Spec PyProof.Rows L2
end Pf

set_option maxHeartbeats 1000000
namespace Pf
open PySem PySem.Spec PyProof.Rows L2
end Pf

set_option maxHeartbeats 8000000
namespace Pf
open PySem PySem.Spec PyProof.Rows L2
/-! ### zip( *tables) as a reading -/
section
variable {X : Cx} {E : XK} {a : Expr} {Fa : Rho → M Sv} {pos p sp : Pos}
end
/-! ### a def with a star, its arguments being data -/
section
variable {P : Program} {w : World} {K : PySem.W.Frag} {mg : Str → Option Value} {base : Heap} {k : Nat} {f : Addr} {fd : FuncData} {x qual pv : Str} {st : Stmt} {N : List Str}
end
section
variable {X : Cx} {CX : CXT} {k j : Nat} {f : Addr} {E : XK} {x : Str} {p pos : Pos} {e : Expr} {es : List Expr} {Fm : List Sv → M Sv} {Fs : Rho → M (List Sv)}
end
end Pf

set_option maxHeartbeats 1000000
namespace Pf
open PySem PySem.Spec PyProof.Rows L2
section
variable {X : Cx} {E : XK} {a b : Expr} {pos : Pos}
end
end Pf

set_option maxHeartbeats 1000000
namespace Pf
open PySem PySem.Spec PyProof.Rows L2
section
variable {l l1 : En} {Fa : Rho → M Sv} {ta : S PyData}
end
/-! ### nine names, a list -/
end Pf

namespace Pf
open PySem PySem.Spec PyProof.Rows L2
/-! ### a list that is written no more becomes data, between two statements -/
end Pf

namespace Pf
open PySem PySem.Spec PyProof.Rows L2
end Pf

namespace Pf
open PySem PySem.Spec PyProof.Rows L2
section
variable {X : Cx} {E : XK}
/-! ### str(an int) -/
end
end Pf

namespace Pf
open PySem PySem.Spec PyProof.Rows L2
/-! ### xs = xs + [..], xs a list that may be written -/
/-! ### a def that calls itself: what it does with no calls left is not said -/
end Pf

set_option maxHeartbeats 1000000
namespace Pf
open PySem PySem.Spec PyProof.Rows L2
/-! ### tuple(range(n)) -/
section
variable {X : Cx} {E : XK} {a : Expr} {Fa : Rho → M Sv} {pos pos2 p p2 : Pos}
end
/-! ### sorted(a list of ints) -/
section
variable {X : Cx} {E : XK}
end
end Pf

set_option maxHeartbeats 1000000
namespace Pf
open PySem PySem.Spec PyProof.Rows L2
section
variable {l l1 : En} {Fa : Rho → M Sv} {ta : S PyData}
end
end Pf

namespace Pf
open PySem PySem.Spec PyProof.Rows L2
/-! ### a list != [] -/
section
variable {X : Cx} {E : XK}
end
end Pf

namespace Pf
open PySem PySem.Spec PyProof.Rows L2
end Pf

set_option maxHeartbeats 1000000
namespace Pf
open PySem PySem.Spec PyProof.Rows L2
/-! ### enumerate of a zip -/
section
variable {prog : Program} {w : World} {A : Around} {E : Value → Shared → Prop} {s : Shared}
end
end Pf

set_option maxHeartbeats 1000000
namespace Pf
open PySem PySem.Spec PyProof.Rows L2
section
variable {prog : Program} {w : World} {A : Around} {z TI TO : Addr} {js : List Addr} {fp : Nat → List Addr} {P : Nat → Value → Prop} {St St' : Nat → Heap → Prop}
end
/-! ### enumerate(zip(a, b)), walked with (i, (x, y)) -/
section
variable {X : Cx} {E : XK} {a b : Expr} {Fa Fb : Rho → M Sv} {pos p p2 pos2 tpos : Pos}
end
end Pf

namespace Pf
open PySem PySem.Spec PyProof.Rows L2
end Pf

set_option maxHeartbeats 1000000
namespace Pf
open PySem PySem.Spec PyProof.Rows L2
noncomputable def T_Falls_init (a1 a2 : PyData) : S PyData :=
  ((((S.ret a1).bind fun x1 => (S.ret []).bind fun as2 => S.ret (x1 :: as2)).bind (u1 T_tree_error)).bind fun v3 =>
  ((((S.ret v3).bind fun x4 => (S.ret PyData.none).bind fun x5 => S.lift (cIs true x4 x5)).bind fun z7 => if z7 = true then ((S.ret v3).bind fun x6 => S.thr ⟨"BadTree", some ("error", x6)⟩) else (S.ret PUnit.unit)).bind fun v8 =>
  (((((((S.ret a1).bind fun x11 => ((S.ret a2).bind fun x9 => (S.ret []).bind fun as10 => S.ret (x9 :: as10)).bind fun as12 => S.ret (x11 :: as12)).bind (u2 T_is_table)).bind fun x13 => S.lift (toB x13)).bind fun z14 => S.ret (!z14)).bind fun z16 => if z16 = true then ((S.ret a2).bind fun x15 => S.thr ⟨"BadTable", some ("value", x15)⟩) else (S.ret PUnit.unit)).bind fun v17 =>
  (((S.ret a1).bind fun d20 => ((S.ret a2).bind fun d18 => (S.ret []).bind fun ds19 => S.ret ((.str "_table", d18) :: ds19)).bind fun ds21 => S.ret ((.str "_tree", d20) :: ds21)).bind fun ds22 => S.ret (obD "Falls" ds22)))))
noncomputable abbrev F_Falls_init : List Sv → M Sv := liftF (u2 T_Falls_init)
noncomputable def K_Falls_init : Rho → M PyData :=
  (gThen 0 (gSet 3 (callF F_tree_error 1 (argC (slot 1) argN)))
  (gThen 0 (gIf (tst (bin (pIs true) (slot 3) (con .none)))
  (Err_BadTree.gRaise (slot 3))
  gSkip)
  (gThen 0 (gIf (notT (tst (callF F_is_table 2 (argC (slot 1) (argC (slot 2) argN)))))
  (Err_BadTable.gRaise (slot 2))
  gSkip)
  (gStores "Falls" (("_tree", (slot 1)) :: (("_table", (slot 2)) :: []))))))
theorem tt_Falls_init (t : Nat) (a1 a2 : PyData) : Jd [some (.tg t), some (.im a1), some (.im a2), none] K_Falls_init (T_Falls_init a1 a2) pI := by
  unfold T_Falls_init K_Falls_init
  exact (i_then (s_setI 3 (e_call (a_cons' (e_slot 1 rfl) a_nil'))) rfl (fun _ => rfl) fun v3 =>
  (i_then (q_if (P := pN fun (s : PUnit) => [some (.tg t), some (.im a1), some (.im a2), some (.im v3)]) (u_bin op_is' (e_slot 3 rfl) (e_w (e_con PyData.none))) (n_raise (e_slot 3 rfl) rfl) (n_skip PUnit.unit (.keep (.keep (.keep (.keep .nil)))))) rfl (fun _ => rfl) fun v8 =>
  (i_then (q_if (P := pN fun (s : PUnit) => [some (.tg t), some (.im a1), some (.im a2), some (.im v3)]) (u_not (u_val (e_call (a_cons' (e_slot 1 rfl) (a_cons' (e_slot 2 rfl) a_nil'))))) (n_raise (e_slot 2 rfl) rfl) (n_skip PUnit.unit (.keep (.keep (.keep (.keep .nil)))))) rfl (fun _ => rfl) fun v17 =>
  (i_stores (fl_cons (e_slot 1 rfl) (fl_cons (e_slot 2 rfl) fl_nil))))))
theorem same_Falls_init (ss : List Sv) (μ : Mu) (r : Res Sv) (hs : ss.length = 2) (wf : Wf μ) (e : F_Falls_init ss μ = some r) : ∃ r', K_Falls_init (ini 4 (.ref μ.length :: ss)) (μ ++ [.gone]) = some r' ∧ AgI μ.length r r' :=
  same_I (n := 2) (by decide) (fun t ds h => by
    obtain ⟨a1, a2, rfl⟩ := len2 h
    exact tt_Falls_init t a1 a2) ss μ r hs wf e
noncomputable def T__law_is_number (a0 a1 a2 : PyData) : S PyData :=
  (((S.ret a0).bind fun x1 => S.lift (oIsi "int" x1)).bind fun x11 => (S.lift (toB x11)).bind fun z12 => dAnd z12 ((((S.ret a0).bind fun x2 => S.lift (oIsi "bool" x2)).bind fun x3 => (S.lift (toB x3)).bind fun b4 => S.ret (PyData.bool (!b4))).bind fun x9 => (S.lift (toB x9)).bind fun z10 => dAnd z10 ((S.ret a1).bind fun x5 => (S.ret a0).bind fun x6 => (S.lift (cLe x5 x6)).bind fun z7 => vAnd z7 ((S.ret a2).bind fun x8 => S.lift (asB2 (cLe x6 x8))))))
noncomputable abbrev F__law_is_number : List Sv → M Sv := liftF (u3 T__law_is_number)
noncomputable def G__law_is_number : Rho → M Out :=
  (gRet (andV (isiV "int" (slot 0)) (andV (notV (isiV "bool" (slot 0))) (chain pLe pLe (slot 1) (slot 0) (slot 2)))))
theorem tt__law_is_number (a0 a1 a2 : PyData) : Jd [some (.im a0), some (.im a1), some (.im a2)] G__law_is_number (T__law_is_number a0 a1 a2) pR := by
  unfold T__law_is_number G__law_is_number
  exact (r_ret (e_and (e_isi "int" (e_slot 0 rfl)) (e_and (e_not (e_isi "bool" (e_slot 0 rfl))) (e_chain op_cmp' op_cmp' (e_slot 1 rfl) (e_slot 0 rfl) (e_w (e_slot 2 rfl))))))
theorem same__law_is_number (ss : List Sv) (μ : Mu) (r : Res Sv) (hs : ss.length = 3) (wf : Wf μ) (e : F__law_is_number ss μ = some r) : ∃ r', G__law_is_number (ini 3 ss) μ = some r' ∧ Agree μ.length r r' :=
  same_T (n := 3) (fun ds h => by
    obtain ⟨a0, a1, a2, rfl⟩ := len3 h
    exact r_e (tt__law_is_number a0 a1 a2)) ss μ r hs wf e
noncomputable def T__law_odd : S PyData :=
  ((((S.ret PyData.none).bind fun x59 => ((S.ret (PyData.bool true)).bind fun x57 => ((S.ret (PyData.bool false)).bind fun x55 => (((S.ret (PyData.int 1)).bind fun x1 => S.lift (oNeg x1)).bind fun x53 => ((S.ret (PyData.int 0)).bind fun x51 => ((S.ret (PyData.int 1)).bind fun x49 => ((S.ret (PyData.int 11)).bind fun x47 => (((S.ret (PyData.int 10)).bind fun x2 => (S.ret (PyData.int 39)).bind fun x3 => S.lift (oPow x2 x3)).bind fun x45 => ((S.ret (PyData.str "")).bind fun x43 => ((S.ret (PyData.str "0")).bind fun x41 => (((S.ret []).bind fun as4 => S.ret (PyData.tuple as4)).bind fun x39 => (((S.ret []).bind fun as5 => S.ret (PyData.list as5)).bind fun x37 => ((S.ret (PyData.dict [])).bind fun x35 => ((((S.ret (PyData.int 0)).bind fun x6 => (S.ret []).bind fun as7 => S.ret (x6 :: as7)).bind fun as8 => S.ret (PyData.tuple as8)).bind fun x33 => ((((S.ret (PyData.int 0)).bind fun x9 => (S.ret []).bind fun as10 => S.ret (x9 :: as10)).bind fun as11 => S.ret (PyData.list as11)).bind fun x31 => ((((S.ret (PyData.bool true)).bind fun x12 => (S.ret []).bind fun as13 => S.ret (x12 :: as13)).bind fun as14 => S.ret (PyData.tuple as14)).bind fun x29 => ((((S.ret (PyData.int 0)).bind fun x17 => ((S.ret (PyData.int 0)).bind fun x15 => (S.ret []).bind fun as16 => S.ret (x15 :: as16)).bind fun as18 => S.ret (x17 :: as18)).bind fun as19 => S.ret (PyData.tuple as19)).bind fun x27 => ((((S.ret (PyData.int 0)).bind fun x22 => ((S.ret (PyData.int 1)).bind fun x20 => (S.ret []).bind fun as21 => S.ret (x20 :: as21)).bind fun as23 => S.ret (x22 :: as23)).bind fun as24 => S.ret (PyData.tuple as24)).bind fun x25 => (S.ret []).bind fun as26 => S.ret (x25 :: as26)).bind fun as28 => S.ret (x27 :: as28)).bind fun as30 => S.ret (x29 :: as30)).bind fun as32 => S.ret (x31 :: as32)).bind fun as34 => S.ret (x33 :: as34)).bind fun as36 => S.ret (x35 :: as36)).bind fun as38 => S.ret (x37 :: as38)).bind fun as40 => S.ret (x39 :: as40)).bind fun as42 => S.ret (x41 :: as42)).bind fun as44 => S.ret (x43 :: as44)).bind fun as46 => S.ret (x45 :: as46)).bind fun as48 => S.ret (x47 :: as48)).bind fun as50 => S.ret (x49 :: as50)).bind fun as52 => S.ret (x51 :: as52)).bind fun as54 => S.ret (x53 :: as54)).bind fun as56 => S.ret (x55 :: as56)).bind fun as58 => S.ret (x57 :: as58)).bind fun as60 => S.ret (x59 :: as60)).bind fun as61 => S.ret (PyData.list as61)).bind fun v62 =>
  (((S.ret v62).bind fun x117 => (((((((S.ret (PyData.int 0)).bind fun x65 => ((S.ret (PyData.int 0)).bind fun x63 => (S.ret []).bind fun as64 => S.ret (x63 :: as64)).bind fun as66 => S.ret (x65 :: as66)).bind fun as67 => S.ret (PyData.tuple as67)).bind fun x68 => (S.ret []).bind fun as69 => S.ret (x68 :: as69)).bind fun as70 => S.ret (PyData.tuple as70)).bind fun x114 => ((((((S.ret (PyData.int 0)).bind fun x73 => ((S.ret (PyData.int 1)).bind fun x71 => (S.ret []).bind fun as72 => S.ret (x71 :: as72)).bind fun as74 => S.ret (x73 :: as74)).bind fun as75 => S.ret (PyData.tuple as75)).bind fun x76 => (S.ret []).bind fun as77 => S.ret (x76 :: as77)).bind fun as78 => S.ret (PyData.tuple as78)).bind fun x112 => ((((((S.ret (PyData.int 0)).bind fun x81 => ((S.ret (PyData.int 1)).bind fun x79 => (S.ret []).bind fun as80 => S.ret (x79 :: as80)).bind fun as82 => S.ret (x81 :: as82)).bind fun as83 => S.ret (PyData.tuple as83)).bind fun x84 => (S.ret []).bind fun as85 => S.ret (x84 :: as85)).bind fun as86 => S.ret (PyData.list as86)).bind fun x110 => ((((S.ret (PyData.int 0)).bind fun x89 => ((S.ret (PyData.bool true)).bind fun x87 => (S.ret []).bind fun as88 => S.ret (x87 :: as88)).bind fun as90 => S.ret (x89 :: as90)).bind fun as91 => S.ret (PyData.tuple as91)).bind fun x108 => ((S.ret (PyData.dict [(.str "a", .int 0)])).bind fun x106 => ((((((S.ret (PyData.int 0)).bind fun x98 => ((((S.ret (PyData.int 10)).bind fun x92 => (S.ret (PyData.int 9)).bind fun x93 => S.lift (oPow x92 x93)).bind fun x94 => (S.ret (PyData.int 1)).bind fun x95 => S.lift (oAdd x94 x95)).bind fun x96 => (S.ret []).bind fun as97 => S.ret (x96 :: as97)).bind fun as99 => S.ret (x98 :: as99)).bind fun as100 => S.ret (PyData.tuple as100)).bind fun x101 => (S.ret []).bind fun as102 => S.ret (x101 :: as102)).bind fun as103 => S.ret (PyData.tuple as103)).bind fun x104 => (S.ret []).bind fun as105 => S.ret (x104 :: as105)).bind fun as107 => S.ret (x106 :: as107)).bind fun as109 => S.ret (x108 :: as109)).bind fun as111 => S.ret (x110 :: as111)).bind fun as113 => S.ret (x112 :: as113)).bind fun as115 => S.ret (x114 :: as115)).bind fun as116 => S.ret (PyData.list as116)).bind fun x118 => S.lift (oAdd x117 x118)).bind fun x121 => (((S.ret (PyData.int 24)).bind fun x119 => (S.ret []).bind fun as120 => S.ret (x119 :: as120)).bind (u1 T__law_draw)).bind fun x122 => S.lift (oIx x121 x122)))
noncomputable abbrev F__law_odd : List Sv → M Sv := liftD (u0 T__law_odd)
noncomputable def G__law_odd : Rho → M Out :=
  (gSeq (gSet 1 (lstV false (argC (con .none) (argC (con (.bool true)) (argC (con (.bool false)) (argC (negV (con (.int 1))) (argC (con (.int 0)) (argC (con (.int 1)) (argC (con (.int 11)) (argC (bin pPow (con (.int 10)) (con (.int 39))) (argC (con (.str "")) (argC (con (.str "0")) (argC (tupV argN) (argC (lstV false argN) (argC (con (.dict [])) (argC (tupV (argC (con (.int 0)) argN)) (argC (lstV false (argC (con (.int 0)) argN)) (argC (tupV (argC (con (.bool true)) argN)) (argC (tupV (argC (con (.int 0)) (argC (con (.int 0)) argN))) (argC (tupV (argC (con (.int 0)) (argC (con (.int 1)) argN))) argN))))))))))))))))))))
  (gRet (bin pIx (bin (pAdd false) (slot 1) (lstV false (argC (tupV (argC (tupV (argC (con (.int 0)) (argC (con (.int 0)) argN))) argN)) (argC (tupV (argC (tupV (argC (con (.int 0)) (argC (con (.int 1)) argN))) argN)) (argC (lstV false (argC (tupV (argC (con (.int 0)) (argC (con (.int 1)) argN))) argN)) (argC (tupV (argC (con (.int 0)) (argC (con (.bool true)) argN))) (argC (con (.dict [(.str "a", .int 0)])) (argC (tupV (argC (tupV (argC (con (.int 0)) (argC (bin (pAdd false) (bin pPow (con (.int 10)) (con (.int 9))) (con (.int 1))) argN))) argN)) argN)))))))) (callF F__law_draw 2 (argC (slot 0) (argC (con (.int 24)) argN))))))
theorem tt__law_odd : Jd [some .dk, none] G__law_odd (T__law_odd) pR := by
  unfold T__law_odd G__law_odd
  exact (r_seq (s_setI 1 (e_lst (a_cons' (e_con PyData.none) (a_cons' (e_con (PyData.bool true)) (a_cons' (e_con (PyData.bool false)) (a_cons' (e_neg (e_con (PyData.int 1))) (a_cons' (e_con (PyData.int 0)) (a_cons' (e_con (PyData.int 1)) (a_cons' (e_con (PyData.int 11)) (a_cons' (e_bin op_pow' (e_con (PyData.int 10)) (e_w (e_con (PyData.int 39)))) (a_cons' (e_con (PyData.str "")) (a_cons' (e_con (PyData.str "0")) (a_cons' (e_tup a_nil') (a_cons' (e_lst a_nil') (a_cons' (e_con (.dict [])) (a_cons' (e_tup (a_cons' (e_con (PyData.int 0)) a_nil')) (a_cons' (e_lst (a_cons' (e_con (PyData.int 0)) a_nil')) (a_cons' (e_tup (a_cons' (e_con (PyData.bool true)) a_nil')) (a_cons' (e_tup (a_cons' (e_con (PyData.int 0)) (a_cons' (e_con (PyData.int 0)) a_nil'))) (a_cons' (e_tup (a_cons' (e_con (PyData.int 0)) (a_cons' (e_con (PyData.int 1)) a_nil'))) a_nil')))))))))))))))))))) fun v62 =>
  (r_ret (e_bin op_ix' (e_bin op_add' (e_slot 1 rfl) (e_w (e_lst (a_cons' (e_tup (a_cons' (e_tup (a_cons' (e_con (PyData.int 0)) (a_cons' (e_con (PyData.int 0)) a_nil'))) a_nil')) (a_cons' (e_tup (a_cons' (e_tup (a_cons' (e_con (PyData.int 0)) (a_cons' (e_con (PyData.int 1)) a_nil'))) a_nil')) (a_cons' (e_lst (a_cons' (e_tup (a_cons' (e_con (PyData.int 0)) (a_cons' (e_con (PyData.int 1)) a_nil'))) a_nil')) (a_cons' (e_tup (a_cons' (e_con (PyData.int 0)) (a_cons' (e_con (PyData.bool true)) a_nil'))) (a_cons' (e_con (.dict [(.str "a", .int 0)])) (a_cons' (e_tup (a_cons' (e_tup (a_cons' (e_con (PyData.int 0)) (a_cons' (e_bin op_add' (e_bin op_pow' (e_con (PyData.int 10)) (e_w (e_con (PyData.int 9)))) (e_w (e_con (PyData.int 1)))) a_nil'))) a_nil')) a_nil'))))))))) (e_w (e_callD 0 rfl (a_cons' (e_con (PyData.int 24)) a_nil'))))))
theorem same__law_odd (ss : List Sv) (μ : Mu) (r : Res Sv) (hs : ss.length = 1) (wf : Wf μ) (e : F__law_odd ss μ = some r) : ∃ r', G__law_odd (ini 2 ss) μ = some r' ∧ Agree μ.length r r' :=
  same_D (n := 0) (by decide) (fun ds h => by
    match ds, h with
    | [], _ => exact r_e (tt__law_odd)) ss μ r hs wf e
noncomputable def T__law_twin (a0 : PyData) : S PyData :=
  ((((S.ret a0).bind fun x1 => S.lift (seqD x1)).bind fun ds4 => (S.lift (szD ds4)).bind fun _ => (S.mapM (fun d2 => S.noEx ((S.ret d2).bind fun s3 => ((((S.ret s3).bind fun x6 => S.lift (seqD x6)).bind fun ds9 => (S.lift (szD ds9)).bind fun _ => (S.mapM (fun d7 => S.noEx ((S.ret d7).bind fun s8 => ((((S.ret s8).bind fun x15 => (((S.ret s8).bind fun x11 => (S.ret (PyData.int 1)).bind fun x12 => S.lift (asB2 (cEq x11 x12))).bind fun x13 => (S.ret []).bind fun as14 => S.ret (x13 :: as14)).bind fun as16 => S.ret (x15 :: as16)).bind fun as17 => S.ret (PyData.list as17)).bind fun x21 => (((S.ret s8).bind fun x18 => (S.ret (PyData.int 2)).bind fun x19 => S.lift (asB2 (cLt x18 x19))).bind fun x20 => S.lift (oInt x20)).bind fun x22 => S.lift (oIx x21 x22)))) ds9).bind fun xs10 => S.ret (PyData.list xs10)).bind fun x23 => S.lift (oTuple x23)))) ds4).bind fun xs5 => S.ret (PyData.list xs5)).bind fun x24 => S.lift (oTuple x24))
noncomputable abbrev F__law_twin : List Sv → M Sv := liftF (u1 T__law_twin)
noncomputable def G__law_twin : Rho → M Out :=
  (gRet (callV bTuple (argC (lcV false [1] (seqV (slot 0)) (gNm 1) yes (callV bTuple (argC (lcV false [2] (seqV (slot 1)) (gNm 2) yes (bin pIx (lstV false (argC (slot 2) (argC (bin pEq (slot 2) (con (.int 1))) argN))) (callV bInt (argC (bin pLt (slot 2) (con (.int 2))) argN)))) argN))) argN)))
theorem tt__law_twin (a0 : PyData) : Jd [some (.im a0), none, none] G__law_twin (T__law_twin a0) pR := by
  unfold T__law_twin G__law_twin
  exact (r_ret (e_bl1 bl_tuple (e_w (e_lc (u := fun d2 => (S.ret d2)) (e' := fun (s : PyData) => [some (.im a0), some (.im s), none]) [1] (w_seq (e_slot 0 rfl)) rfl (fun d2 => (tc_nm 1 d2 rfl)) (fun s3 => (e_bl1 bl_tuple (e_w (e_lc (u := fun d7 => (S.ret d7)) (e' := fun (s : PyData) => [some (.im a0), some (.im s3), some (.im s)]) [2] (w_seq (e_slot 1 rfl)) rfl (fun d7 => (tc_nm 2 d7 rfl)) (fun s8 => (e_bin op_ix' (e_lst (a_cons' (e_slot 2 rfl) (a_cons' (e_binB op_eqn' (e_slot 2 rfl) (e_w (e_con (PyData.int 1)))) a_nil'))) (e_w (e_bl1 bl_int (e_w (e_binB op_cmp' (e_slot 2 rfl) (e_w (e_con (PyData.int 2)))))))))))))))))
theorem same__law_twin (ss : List Sv) (μ : Mu) (r : Res Sv) (hs : ss.length = 1) (wf : Wf μ) (e : F__law_twin ss μ = some r) : ∃ r', G__law_twin (ini 3 ss) μ = some r' ∧ Agree μ.length r r' :=
  same_T (n := 1) (fun ds h => by
    obtain ⟨a0, rfl⟩ := len1 h
    exact r_e (tt__law_twin a0)) ss μ r hs wf e
noncomputable def T__law_due (a0 a1 : PyData) : S PyData :=
  ((((((S.ret a1).bind fun x1 => S.lift (oIsi "tuple" x1)).bind fun x2 => S.lift (toB x2)).bind fun z3 => S.ret (!z3)).bind fun z11 => bOr z11 ((((S.ret a1).bind fun x4 => S.lift (oLen x4)).bind fun x5 => (S.ret (PyData.int 1)).bind fun x6 => S.lift (cLt x5 x6)).bind fun z10 => bOr z10 (((S.ret a1).bind fun x7 => S.lift (oLen x7)).bind fun x8 => (S.ret (PyData.int 20)).bind fun x9 => S.lift (cGt x8 x9)))).bind fun z12 => if z12 = true then (((S.ret (PyData.str "bad")).bind fun x15 => ((S.ret PyData.none).bind fun x13 => (S.ret []).bind fun as14 => S.ret (x13 :: as14)).bind fun as16 => S.ret (x15 :: as16)).bind fun as17 => S.ret (PyData.list as17)) else
  ((((S.ret a1).bind fun x18 => S.lift ((seqD x18).map enuD)).bind fun ds27 => S.foldF (fun (s19 : PUnit) d20 => ((S.lift (un2 d20)).bind fun p22 => (S.ret p22.1).bind fun s23 => (S.ret p22.2).bind fun s25 => S.ret (s23, s25)).bind fun t21 => ((((((S.ret t21.2).bind fun x28 => S.lift (oIsi "tuple" x28)).bind fun x29 => S.lift (toB x29)).bind fun z30 => S.ret (!z30)).bind fun z48 => bOr z48 ((((S.ret t21.2).bind fun x31 => S.lift (oLen x31)).bind fun x32 => (S.ret (PyData.int 2)).bind fun x33 => S.lift (cNe x32 x33)).bind fun z47 => bOr z47 ((((((S.ret t21.2).bind fun x34 => (S.ret (PyData.int 0)).bind fun x35 => S.lift (oIx x34 x35)).bind fun x43 => ((S.ret (PyData.int 0)).bind fun x41 => ((((S.ret a0).bind fun x36 => S.lift (oLen x36)).bind fun x37 => (S.ret (PyData.int 1)).bind fun x38 => S.lift (oSub x37 x38)).bind fun x39 => (S.ret []).bind fun as40 => S.ret (x39 :: as40)).bind fun as42 => S.ret (x41 :: as42)).bind fun as44 => S.ret (x43 :: as44)).bind (u3 T__law_is_number)).bind fun x45 => S.lift (toB x45)).bind fun z46 => S.ret (!z46)))).bind fun z49 => if z49 = true then ((((S.ret (PyData.str "bad")).bind fun x52 => ((S.ret t21.1).bind fun x50 => (S.ret []).bind fun as51 => S.ret (x50 :: as51)).bind fun as53 => S.ret (x52 :: as53)).bind fun as54 => S.ret (PyData.list as54)).bind fun x55 => S.ret (.rt x55)) else
  (((((((S.ret t21.2).bind fun x56 => (S.ret (PyData.int 1)).bind fun x57 => S.lift (oIx x56 x57)).bind fun x64 => ((S.ret (PyData.int 0)).bind fun x62 => (((S.ret (PyData.int 10)).bind fun x58 => (S.ret (PyData.int 9)).bind fun x59 => S.lift (oPow x58 x59)).bind fun x60 => (S.ret []).bind fun as61 => S.ret (x60 :: as61)).bind fun as63 => S.ret (x62 :: as63)).bind fun as65 => S.ret (x64 :: as65)).bind (u3 T__law_is_number)).bind fun x66 => S.lift (toB x66)).bind fun z67 => S.ret (!z67)).bind fun z68 => if z68 = true then ((((S.ret (PyData.str "bad")).bind fun x71 => ((S.ret t21.1).bind fun x69 => (S.ret []).bind fun as70 => S.ret (x69 :: as70)).bind fun as72 => S.ret (x71 :: as72)).bind fun as73 => S.ret (PyData.list as73)).bind fun x74 => S.ret (.rt x74)) else (S.ret (.nx PUnit.unit))))) ds27 PUnit.unit).bind fun o75 => flR o75 fun (s76 : PUnit) =>
  (((S.ret a0).bind fun x79 => ((S.ret a1).bind fun x77 => (S.ret []).bind fun as78 => S.ret (x77 :: as78)).bind fun as80 => S.ret (x79 :: as80)).bind (u2 T__law_falls))))
noncomputable abbrev F__law_due : List Sv → M Sv := liftF (u2 T__law_due)
noncomputable def G__law_due : Rho → M Out :=
  (gSeq (gIf (orT (notT (tst (isiV "tuple" (slot 1)))) (orT (tst (bin pLt (callV bLen (argC (slot 1) argN)) (con (.int 1)))) (tst (bin pGt (callV bLen (argC (slot 1) argN)) (con (.int 20))))))
  (gRet (lstV false (argC (con (.str "bad")) (argC (con .none) argN))))
  gSkip)
  (gSeq (gFor (enuA (slot 1)) (gTp 2 (gsCons (gNm 2) (gsCons (gNm 3) gsNil)))
  (gSeq (gIf (orT (notT (tst (isiV "tuple" (slot 3)))) (orT (tst (bin pNe (callV bLen (argC (slot 3) argN)) (con (.int 2)))) (notT (tst (callF F__law_is_number 3 (argC (bin pIx (slot 3) (con (.int 0))) (argC (con (.int 0)) (argC (bin pSub (callV bLen (argC (slot 0) argN)) (con (.int 1))) argN))))))))
  (gRet (lstV false (argC (con (.str "bad")) (argC (slot 2) argN))))
  gSkip)
  (gIf (notT (tst (callF F__law_is_number 3 (argC (bin pIx (slot 3) (con (.int 1))) (argC (con (.int 0)) (argC (bin pPow (con (.int 10)) (con (.int 9))) argN))))))
  (gRet (lstV false (argC (con (.str "bad")) (argC (slot 2) argN))))
  gSkip)))
  (gRet (callF F__law_falls 2 (argC (slot 0) (argC (slot 1) argN))))))
theorem tt__law_due (a0 a1 : PyData) : Jd [some (.im a0), some (.im a1), none, none] G__law_due (T__law_due a0 a1) pR := by
  unfold T__law_due G__law_due
  exact (r_ifR (u_or (u_not (u_val (e_isi "tuple" (e_slot 1 rfl)))) (u_or (u_bin op_cmp' (e_bl1 bl_len (e_w (e_slot 1 rfl))) (e_w (e_con (PyData.int 1)))) (u_bin op_cmp' (e_bl1 bl_len (e_w (e_slot 1 rfl))) (e_w (e_con (PyData.int 20)))))) (r_ret (e_lst (a_cons' (e_con (PyData.str "bad")) (a_cons' (e_con PyData.none) a_nil'))))
  (r_flow (s_forF (h := fun (s : PUnit) => [some (.im a0), some (.im a1), none, none]) PUnit.unit (w_enA (e_slot 1 rfl)) (.keep (.keep (.drop (.drop .nil)))) (fun s19 d20 => b_tgF (u := fun d20 => ((S.lift (un2 d20)).bind fun p22 => (S.ret p22.1).bind fun s23 => (S.ret p22.2).bind fun s25 => S.ret (s23, s25))) (e' := fun (t : ((PyData) × (PyData))) => [some (.im a0), some (.im a1), some (.im t.1), some (.im t.2)]) d20 (tg_tp2 (e1 := fun (s23 : PyData) => [some (.im a0), some (.im a1), some (.im s23), none]) (e2 := fun (s23 : PyData) (s25 : PyData) => [some (.im a0), some (.im a1), some (.im s23), some (.im s25)]) (u1 := fun d24 => (S.ret d24)) (u2 := fun d26 => (S.ret d26)) d20 (fun d24 => (tg_nm 2 d24)) (fun s23 d26 => (tg_nm 3 d26))) fun t21 => (f_if (u_or (u_not (u_val (e_isi "tuple" (e_slot 3 rfl)))) (u_or (u_bin op_eqn' (e_bl1 bl_len (e_w (e_slot 3 rfl))) (e_w (e_con (PyData.int 2)))) (u_not (u_val (e_call (a_cons' (e_bin op_ix' (e_slot 3 rfl) (e_w (e_con (PyData.int 0)))) (a_cons' (e_con (PyData.int 0)) (a_cons' (e_bin op_sub' (e_bl1 bl_len (e_w (e_slot 0 rfl))) (e_w (e_con (PyData.int 1)))) a_nil')))))))) (f_ret (e_lst (a_cons' (e_con (PyData.str "bad")) (a_cons' (e_slot 2 rfl) a_nil'))))
  (q_if (u_not (u_val (e_call (a_cons' (e_bin op_ix' (e_slot 3 rfl) (e_w (e_con (PyData.int 1)))) (a_cons' (e_con (PyData.int 0)) (a_cons' (e_bin op_pow' (e_con (PyData.int 10)) (e_w (e_con (PyData.int 9)))) a_nil')))))) (f_ret (e_lst (a_cons' (e_con (PyData.str "bad")) (a_cons' (e_slot 2 rfl) a_nil')))) (f_skip PUnit.unit (.keep (.keep (.drop (.drop .nil))))))))) fun s76 =>
  (r_ret (e_call (a_cons' (e_slot 0 rfl) (a_cons' (e_slot 1 rfl) a_nil'))))))
theorem same__law_due (ss : List Sv) (μ : Mu) (r : Res Sv) (hs : ss.length = 2) (wf : Wf μ) (e : F__law_due ss μ = some r) : ∃ r', G__law_due (ini 4 ss) μ = some r' ∧ Agree μ.length r r' :=
  same_T (n := 2) (fun ds h => by
    obtain ⟨a0, a1, rfl⟩ := len2 h
    exact r_e (tt__law_due a0 a1)) ss μ r hs wf e
noncomputable def T__law_told (a0 a1 : PyData) : S PyData :=
  (S.tryX [⟨"BadPushes", "index", (.l [(.s "bad"), .f])⟩] (((S.ret a0).bind fun x3 => ((S.ret a1).bind fun x1 => (S.ret []).bind fun as2 => S.ret (x1 :: as2)).bind fun as4 => S.ret (x3 :: as4)).bind (u2 T_falls_of)))
noncomputable abbrev F__law_told : List Sv → M Sv := liftF (u2 T__law_told)
noncomputable def G__law_told : Rho → M Out :=
  (gSeq (gTryX [⟨"BadPushes", "index", (.l [(.s "bad"), .f])⟩] (gRet (callF F_falls_of 2 (argC (slot 0) (argC (slot 1) argN)))))
  (gRet (lstV false (argC (con (.str "other")) argN))))
theorem tt__law_told (a0 a1 : PyData) : Jd [some (.im a0), some (.im a1), none] G__law_told (T__law_told a0 a1) pR := by
  unfold T__law_told G__law_told
  exact (r_tryXR (r_tryX (r_ret (e_call (a_cons' (e_slot 0 rfl) (a_cons' (e_slot 1 rfl) a_nil'))))))
theorem same__law_told (ss : List Sv) (μ : Mu) (r : Res Sv) (hs : ss.length = 2) (wf : Wf μ) (e : F__law_told ss μ = some r) : ∃ r', G__law_told (ini 3 ss) μ = some r' ∧ Agree μ.length r r' :=
  same_T (n := 2) (fun ds h => by
    obtain ⟨a0, a1, rfl⟩ := len2 h
    exact r_e (tt__law_told a0 a1)) ss μ r hs wf e
noncomputable def T__law_changed (a1 a2 : PyData) : S PyData :=
  (((((((S.ret a2).bind fun x1 => S.lift (oLen x1)).bind fun x2 => (S.ret (PyData.int 1)).bind fun x3 => S.lift (oAdd x2 x3)).bind fun x4 => (S.ret []).bind fun as5 => S.ret (x4 :: as5)).bind (u1 T__law_draw)).bind fun x8 => (((S.ret (PyData.int 2)).bind fun x6 => (S.ret []).bind fun as7 => S.ret (x6 :: as7)).bind (u1 T__law_draw)).bind fun x9 => ((S.ret []).bind (u0 T__law_odd)).bind fun x10 => S.ret (x8, x9, x10)).bind fun v11 =>
  ((((S.ret a2).bind fun x22 => (((((S.ret (PyData.int 0)).bind fun x16 => (((S.ret (PyData.int 10)).bind fun x12 => (S.ret (PyData.int 9)).bind fun x13 => S.lift (oPow x12 x13)).bind fun x14 => (S.ret []).bind fun as15 => S.ret (x14 :: as15)).bind fun as17 => S.ret (x16 :: as17)).bind fun as18 => S.ret (PyData.tuple as18)).bind fun x19 => (S.ret []).bind fun as20 => S.ret (x19 :: as20)).bind fun as21 => S.ret (PyData.tuple as21)).bind fun x23 => S.lift (oAdd x22 x23)).bind fun x24 => (S.ret v11.1).bind fun x25 => S.lift (oIx x24 x25)).bind fun v26 =>
  (((((S.ret v11.2.2).bind fun x52 => (((((((S.ret a1).bind fun x27 => S.lift (oLen x27)).bind fun x28 => (S.ret (PyData.int 1)).bind fun x29 => S.lift (oAdd x28 x29)).bind fun x36 => ((((S.ret (PyData.int 10)).bind fun x30 => (S.ret (PyData.int 9)).bind fun x31 => S.lift (oPow x30 x31)).bind fun x32 => (S.ret (PyData.int 1)).bind fun x33 => S.lift (oAdd x32 x33)).bind fun x34 => (S.ret []).bind fun as35 => S.ret (x34 :: as35)).bind fun as37 => S.ret (x36 :: as37)).bind fun as38 => S.ret (PyData.list as38)).bind fun x39 => (S.ret v11.2.1).bind fun x40 => S.lift (oIx x39 x40)).bind fun x50 => (((S.ret (PyData.int 1)).bind fun x41 => S.lift (oNeg x41)).bind fun x48 => (((S.ret v26).bind fun x44 => ((S.ret (PyData.int 1)).bind fun x42 => (S.ret v11.2.1).bind fun x43 => S.lift (oSub x42 x43)).bind fun x45 => S.lift (oIx x44 x45)).bind fun x46 => (S.ret []).bind fun as47 => S.ret (x46 :: as47)).bind fun as49 => S.ret (x48 :: as49)).bind fun as51 => S.ret (x50 :: as51)).bind fun as53 => S.ret (x52 :: as53)).bind fun as54 => S.ret (PyData.list as54)).bind fun x57 => (((S.ret (PyData.int 4)).bind fun x55 => (S.ret []).bind fun as56 => S.ret (x55 :: as56)).bind (u1 T__law_draw)).bind fun x58 => S.lift (oIx x57 x58)).bind fun v59 =>
  (((((((S.ret v26).bind fun x61 => (S.ret none).bind fun x62 => ((S.ret v11.2.1).bind fun x60 => S.lift ((toI x60).map some)).bind fun x63 => S.lift (oSl x61 x62 x63)).bind fun x67 => (((S.ret v59).bind fun x64 => (S.ret []).bind fun as65 => S.ret (x64 :: as65)).bind fun as66 => S.ret (PyData.tuple as66)).bind fun x68 => S.lift (oAdd x67 x68)).bind fun x75 => ((S.ret v26).bind fun x72 => (((S.ret v11.2.1).bind fun x69 => (S.ret (PyData.int 1)).bind fun x70 => S.lift (oAdd x69 x70)).bind fun x71 => S.lift ((toI x71).map some)).bind fun x73 => (S.ret none).bind fun x74 => S.lift (oSl x72 x73 x74)).bind fun x76 => S.lift (oAdd x75 x76)).bind fun x98 => (((S.ret v26).bind fun x77 => S.lift (oRevT x77)).bind fun x96 => (((S.ret v26).bind fun x78 => S.lift (oList x78)).bind fun x94 => (((S.ret v26).bind fun x80 => (S.ret none).bind fun x81 => ((S.ret (PyData.int 1)).bind fun x79 => S.lift ((toI x79).map some)).bind fun x82 => S.lift (oSl x80 x81 x82)).bind fun x92 => (((S.ret v26).bind fun x86 => (((S.ret (PyData.int 0)).bind fun x83 => (S.ret []).bind fun as84 => S.ret (x83 :: as84)).bind fun as85 => S.ret (PyData.tuple as85)).bind fun x87 => S.lift (oAdd x86 x87)).bind fun x90 => ((S.ret v11.2.2).bind fun x88 => (S.ret []).bind fun as89 => S.ret (x88 :: as89)).bind fun as91 => S.ret (x90 :: as91)).bind fun as93 => S.ret (x92 :: as93)).bind fun as95 => S.ret (x94 :: as95)).bind fun as97 => S.ret (x96 :: as97)).bind fun as99 => S.ret (x98 :: as99)).bind fun as100 => S.ret (PyData.list as100)).bind fun v101 =>
  ((((((S.ret v101).bind fun x103 => (S.ret none).bind fun x104 => ((S.ret (PyData.int 1)).bind fun x102 => S.lift ((toI x102).map some)).bind fun x105 => S.lift (oSl x103 x104 x105)).bind fun x106 => (S.ret (PyData.int 3)).bind fun x107 => S.lift (oMul x106 x107)).bind fun x108 => (S.ret v101).bind fun x109 => S.lift (oAdd x108 x109)).bind fun x112 => (((S.ret (PyData.int 9)).bind fun x110 => (S.ret []).bind fun as111 => S.ret (x110 :: as111)).bind (u1 T__law_draw)).bind fun x113 => S.lift (oIx x112 x113)).bind fun v114 =>
  ((((S.ret a2).bind fun x116 => (S.ret none).bind fun x117 => ((S.ret v11.1).bind fun x115 => S.lift ((toI x115).map some)).bind fun x118 => S.lift (oSl x116 x117 x118)).bind fun x127 => ((S.ret a2).bind fun x122 => (((S.ret v11.1).bind fun x119 => (S.ret (PyData.int 1)).bind fun x120 => S.lift (oAdd x119 x120)).bind fun x121 => S.lift ((toI x121).map some)).bind fun x123 => (S.ret none).bind fun x124 => S.lift (oSl x122 x123 x124)).bind fun x128 => ((S.ret a2).bind fun x125 => (S.ret (PyData.int 21)).bind fun x126 => S.lift (oMulT x125 x126)).bind fun x129 => S.ret (x127, x128, x129)).bind fun v130 =>
  ((((((S.ret v130.1).bind fun x134 => (((S.ret v114).bind fun x131 => (S.ret []).bind fun as132 => S.ret (x131 :: as132)).bind fun as133 => S.ret (PyData.tuple as133)).bind fun x135 => S.lift (oAdd x134 x135)).bind fun x136 => (S.ret v130.2.1).bind fun x137 => S.lift (oAdd x136 x137)).bind fun x166 => ((((S.ret v130.1).bind fun x141 => (((S.ret v114).bind fun x138 => (S.ret []).bind fun as139 => S.ret (x138 :: as139)).bind fun as140 => S.ret (PyData.tuple as140)).bind fun x142 => S.lift (oAdd x141 x142)).bind fun x147 => ((S.ret a2).bind fun x144 => ((S.ret v11.1).bind fun x143 => S.lift ((toI x143).map some)).bind fun x145 => (S.ret none).bind fun x146 => S.lift (oSl x144 x145 x146)).bind fun x148 => S.lift (oAdd x147 x148)).bind fun x164 => (((S.ret v130.1).bind fun x149 => (S.ret v130.2.1).bind fun x150 => S.lift (oAdd x149 x150)).bind fun x162 => (((S.ret a2).bind fun x151 => S.lift (oRevT x151)).bind fun x160 => (((S.ret a2).bind fun x156 => ((S.ret a2).bind fun x153 => (S.ret none).bind fun x154 => ((S.ret (PyData.int 1)).bind fun x152 => S.lift ((toI x152).map some)).bind fun x155 => S.lift (oSl x153 x154 x155)).bind fun x157 => S.lift (oAdd x156 x157)).bind fun x158 => (S.ret []).bind fun as159 => S.ret (x158 :: as159)).bind fun as161 => S.ret (x160 :: as161)).bind fun as163 => S.ret (x162 :: as163)).bind fun as165 => S.ret (x164 :: as165)).bind fun as167 => S.ret (x166 :: as167)).bind fun as168 => S.ret (PyData.list as168)).bind fun v169 =>
  (((S.ret v169).bind fun x193 => ((((S.ret a2).bind fun x170 => S.lift (oList x170)).bind fun x190 => ((((S.ret a2).bind fun x171 => (S.ret []).bind fun as172 => S.ret (x171 :: as172)).bind fun as173 => S.ret (PyData.tuple as173)).bind fun x188 => ((S.ret v11.2.2).bind fun x186 => (((S.ret v130.2.2).bind fun x175 => (S.ret none).bind fun x176 => ((S.ret (PyData.int 20)).bind fun x174 => S.lift ((toI x174).map some)).bind fun x177 => S.lift (oSl x175 x176 x177)).bind fun x184 => (((S.ret v130.2.2).bind fun x179 => (S.ret none).bind fun x180 => ((S.ret (PyData.int 21)).bind fun x178 => S.lift ((toI x178).map some)).bind fun x181 => S.lift (oSl x179 x180 x181)).bind fun x182 => (S.ret []).bind fun as183 => S.ret (x182 :: as183)).bind fun as185 => S.ret (x184 :: as185)).bind fun as187 => S.ret (x186 :: as187)).bind fun as189 => S.ret (x188 :: as189)).bind fun as191 => S.ret (x190 :: as191)).bind fun as192 => S.ret (PyData.list as192)).bind fun x194 => S.lift (oAdd x193 x194)).bind fun v195 =>
  ((S.ret v195).bind fun x202 => ((S.ret (PyData.int 0)).bind fun x200 => ((((S.ret (PyData.int 13)).bind fun x196 => (S.ret []).bind fun as197 => S.ret (x196 :: as197)).bind (u1 T__law_draw)).bind fun x198 => (S.ret (PyData.int 3)).bind fun x199 => S.lift (oSub x198 x199)).bind fun x201 => S.lift (oMax2 x200 x201)).bind fun x203 => S.lift (oIx x202 x203))))))))))
noncomputable abbrev F__law_changed : List Sv → M Sv := liftD (u2 T__law_changed)
noncomputable def G__law_changed : Rho → M Out :=
  (gSeq (gPar3 8 9 10 (argC (callF F__law_draw 2 (argC (slot 0) (argC (bin (pAdd false) (callV bLen (argC (slot 2) argN)) (con (.int 1))) argN))) (argC (callF F__law_draw 2 (argC (slot 0) (argC (con (.int 2)) argN))) (argC (callF F__law_odd 1 (argC (slot 0) argN)) argN))))
  (gSeq (gSet 3 (bin pIx (bin (pAdd false) (slot 2) (tupV (argC (tupV (argC (con (.int 0)) (argC (bin pPow (con (.int 10)) (con (.int 9))) argN))) argN))) (slot 8)))
  (gSeq (gSet 4 (bin pIx (lstV false (argC (slot 10) (argC (bin pIx (lstV false (argC (bin (pAdd false) (callV bLen (argC (slot 1) argN)) (con (.int 1))) (argC (bin (pAdd false) (bin pPow (con (.int 10)) (con (.int 9))) (con (.int 1))) argN))) (slot 9)) (argC (negV (con (.int 1))) (argC (bin pIx (slot 3) (bin pSub (con (.int 1)) (slot 9))) argN))))) (callF F__law_draw 2 (argC (slot 0) (argC (con (.int 4)) argN)))))
  (gSeq (gSet 5 (lstV false (argC (bin (pAdd false) (bin (pAdd false) (slV false (slot 3) noPart (aPart (slot 9))) (tupV (argC (slot 4) argN))) (slV false (slot 3) (aPart (bin (pAdd false) (slot 9) (con (.int 1)))) noPart)) (argC (revTV (slot 3)) (argC (callV (bList false) (argC (slot 3) argN)) (argC (slV false (slot 3) noPart (aPart (con (.int 1)))) (argC (bin (pAdd false) (slot 3) (tupV (argC (con (.int 0)) argN))) (argC (slot 10) argN))))))))
  (gSeq (gSet 6 (bin pIx (bin (pAdd false) (bin (pMul false) (slV false (slot 5) noPart (aPart (con (.int 1)))) (con (.int 3))) (slot 5)) (callF F__law_draw 2 (argC (slot 0) (argC (con (.int 9)) argN)))))
  (gSeq (gPar3 11 12 13 (argC (slV false (slot 2) noPart (aPart (slot 8))) (argC (slV false (slot 2) (aPart (bin (pAdd false) (slot 8) (con (.int 1)))) noPart) (argC (bin pMulA (slot 2) (con (.int 21))) argN))))
  (gSeq (gSet 7 (lstV false (argC (bin (pAdd false) (bin (pAdd false) (slot 11) (tupV (argC (slot 6) argN))) (slot 12)) (argC (bin (pAdd false) (bin (pAdd false) (slot 11) (tupV (argC (slot 6) argN))) (slV false (slot 2) (aPart (slot 8)) noPart)) (argC (bin (pAdd false) (slot 11) (slot 12)) (argC (revTV (slot 2)) (argC (bin (pAdd false) (slot 2) (slV false (slot 2) noPart (aPart (con (.int 1))))) argN)))))))
  (gSeq (gSet 7 (bin (pAdd false) (slot 7) (lstV false (argC (callV (bList false) (argC (slot 2) argN)) (argC (tupV (argC (slot 2) argN)) (argC (slot 10) (argC (slV false (slot 13) noPart (aPart (con (.int 20)))) (argC (slV false (slot 13) noPart (aPart (con (.int 21)))) argN))))))))
  (gRet (bin pIx (slot 7) (callV bMax2 (argC (con (.int 0)) (argC (bin pSub (callF F__law_draw 2 (argC (slot 0) (argC (con (.int 13)) argN))) (con (.int 3))) argN)))))))))))))
theorem tt__law_changed (a1 a2 : PyData) : Jd [some .dk, some (.im a1), some (.im a2), none, none, none, none, none, none, none, none, none, none, none] G__law_changed (T__law_changed a1 a2) pR := by
  unfold T__law_changed G__law_changed
  exact (r_seq (s_par3' 8 9 10 (e_callD 0 rfl (a_cons' (e_bin op_add' (e_bl1 bl_len (e_w (e_slot 2 rfl))) (e_w (e_con (PyData.int 1)))) a_nil')) (e_callD 0 rfl (a_cons' (e_con (PyData.int 2)) a_nil')) (e_callD 0 rfl a_nil')) fun v11 =>
  (r_seq (s_setI 3 (e_bin op_ix' (e_bin op_add' (e_slot 2 rfl) (e_w (e_tup (a_cons' (e_tup (a_cons' (e_con (PyData.int 0)) (a_cons' (e_bin op_pow' (e_con (PyData.int 10)) (e_w (e_con (PyData.int 9)))) a_nil'))) a_nil')))) (e_w (e_slot 8 rfl)))) fun v26 =>
  (r_seq (s_setI 4 (e_bin op_ix' (e_lst (a_cons' (e_slot 10 rfl) (a_cons' (e_bin op_ix' (e_lst (a_cons' (e_bin op_add' (e_bl1 bl_len (e_w (e_slot 1 rfl))) (e_w (e_con (PyData.int 1)))) (a_cons' (e_bin op_add' (e_bin op_pow' (e_con (PyData.int 10)) (e_w (e_con (PyData.int 9)))) (e_w (e_con (PyData.int 1)))) a_nil'))) (e_w (e_slot 9 rfl))) (a_cons' (e_neg (e_con (PyData.int 1))) (a_cons' (e_bin op_ix' (e_slot 3 rfl) (e_w (e_bin op_sub' (e_con (PyData.int 1)) (e_w (e_slot 9 rfl))))) a_nil'))))) (e_w (e_callD 0 rfl (a_cons' (e_con (PyData.int 4)) a_nil'))))) fun v59 =>
  (r_seq (s_setI 5 (e_lst (a_cons' (e_bin op_add' (e_bin op_add' (e_sl (e_slot 3 rfl) p_no (p_so (e_slot 9 rfl))) (e_w (e_tup (a_cons' (e_slot 4 rfl) a_nil')))) (e_w (e_sl (e_slot 3 rfl) (p_so (e_bin op_add' (e_slot 9 rfl) (e_w (e_con (PyData.int 1))))) p_no))) (a_cons' (e_revT (e_slot 3 rfl)) (a_cons' (e_bl1 bl_list (e_w (e_slot 3 rfl))) (a_cons' (e_sl (e_slot 3 rfl) p_no (p_so (e_con (PyData.int 1)))) (a_cons' (e_bin op_add' (e_slot 3 rfl) (e_w (e_tup (a_cons' (e_con (PyData.int 0)) a_nil')))) (a_cons' (e_slot 10 rfl) a_nil')))))))) fun v101 =>
  (r_seq (s_setI 6 (e_bin op_ix' (e_bin op_add' (e_binD op_mul' (e_sl (e_slot 5 rfl) p_no (p_so (e_con (PyData.int 1)))) (e_con (PyData.int 3))) (e_w (e_slot 5 rfl))) (e_w (e_callD 0 rfl (a_cons' (e_con (PyData.int 9)) a_nil'))))) fun v114 =>
  (r_seq (s_par3' 11 12 13 (e_sl (e_slot 2 rfl) p_no (p_so (e_slot 8 rfl))) (e_sl (e_slot 2 rfl) (p_so (e_bin op_add' (e_slot 8 rfl) (e_w (e_con (PyData.int 1))))) p_no) (e_bin op_mulT' (e_slot 2 rfl) (e_w (e_con (PyData.int 21))))) fun v130 =>
  (r_seq (s_setI 7 (e_lst (a_cons' (e_bin op_add' (e_bin op_add' (e_slot 11 rfl) (e_w (e_tup (a_cons' (e_slot 6 rfl) a_nil')))) (e_w (e_slot 12 rfl))) (a_cons' (e_bin op_add' (e_bin op_add' (e_slot 11 rfl) (e_w (e_tup (a_cons' (e_slot 6 rfl) a_nil')))) (e_w (e_sl (e_slot 2 rfl) (p_so (e_slot 8 rfl)) p_no))) (a_cons' (e_bin op_add' (e_slot 11 rfl) (e_w (e_slot 12 rfl))) (a_cons' (e_revT (e_slot 2 rfl)) (a_cons' (e_bin op_add' (e_slot 2 rfl) (e_w (e_sl (e_slot 2 rfl) p_no (p_so (e_con (PyData.int 1)))))) a_nil'))))))) fun v169 =>
  (r_seq (s_setI 7 (e_bin op_add' (e_slot 7 rfl) (e_w (e_lst (a_cons' (e_bl1 bl_list (e_w (e_slot 2 rfl))) (a_cons' (e_tup (a_cons' (e_slot 2 rfl) a_nil')) (a_cons' (e_slot 10 rfl) (a_cons' (e_sl (e_slot 13 rfl) p_no (p_so (e_con (PyData.int 20)))) (a_cons' (e_sl (e_slot 13 rfl) p_no (p_so (e_con (PyData.int 21)))) a_nil'))))))))) fun v195 =>
  (r_ret (e_bin op_ix' (e_slot 7 rfl) (e_w (e_bl2 bl_max2 (e_con (PyData.int 0)) (e_bin op_sub' (e_callD 0 rfl (a_cons' (e_con (PyData.int 13)) a_nil')) (e_w (e_con (PyData.int 3))))))))))))))))
theorem same__law_changed (ss : List Sv) (μ : Mu) (r : Res Sv) (hs : ss.length = 3) (wf : Wf μ) (e : F__law_changed ss μ = some r) : ∃ r', G__law_changed (ini 14 ss) μ = some r' ∧ Agree μ.length r r' :=
  same_D (n := 2) (by decide) (fun ds h => by
    obtain ⟨a1, a2, rfl⟩ := len2 h
    exact r_e (tt__law_changed a1 a2)) ss μ r hs wf e
noncomputable def R_law : Rho → M Out :=
  (gSeq (gFor (rngV (con (.int 8))) (gNm 2)
  (gSeq (gSet 3 (callF F__law_tree 2 (argC (slot 1) (argC (bin pIx (lstV false (argC (con (.int 12)) (argC (con (.int 3)) (argC (con (.int 6)) argN)))) (bin pMod (slot 2) (con (.int 3)))) argN))))
  (gSeq (gSet 4 (callF F__law_pushes 4 (argC (slot 1) (argC (slot 3) (argC (bin pIx (lstV false (argC (con (.int 20)) (argC (con (.int 4)) argN))) (bin pMod (slot 2) (con (.int 2)))) (argC (bin pIx (lstV false (argC (con (.int 2)) (argC (con (.int 30)) (argC (bin (pAdd false) (bin pPow (con (.int 10)) (con (.int 9))) (con (.int 1))) argN)))) (callF F__law_draw 2 (argC (slot 1) (argC (con (.int 3)) argN)))) argN))))))
  (gSeq (gPar 7 5 (argC (callF F__law_far 1 (argC (slot 3) argN)) (argC (lstV false (argC (slot 4) (argC (callF F__law_twin 1 (argC (slot 4) argN)) (argC (slot 4) (argC (tupV argN) (argC (tupV (argC (tupV (argC (con (.int 0)) (argC (con (.int 0)) argN))) argN)) (argC (tupV (argC (tupV (argC (con (.int 0)) (argC (con (.bool false)) argN))) argN)) (argC (tupV (argC (tupV (argC (con (.bool false)) (argC (con (.int 0)) argN))) argN)) argN)))))))) argN)))
  (gSeq (gSet 5 (bin (pAdd false) (slot 5) (lstV false (argC (tupV (argC (tupV (argC (con (.int 0)) (argC (con (.int 1)) argN))) argN)) (argC (tupV (argC (tupV (argC (con (.int 0)) (argC (con (.bool true)) argN))) argN)) (argC (tupV (argC (tupV (argC (con (.int 0)) (argC (con (.int 1)) argN))) argN)) (argC (bin pMulA (tupV (argC (tupV (argC (con (.int 0)) (argC (con (.int 0)) argN))) argN)) (con (.int 20))) (argC (bin pMulA (tupV (argC (tupV (argC (con (.int 0)) (argC (con (.int 0)) argN))) argN)) (con (.int 21))) (argC (con .none) argN)))))))))
  (gSeq (gFor (seqV (bin (pAdd false) (slot 5) (lcV false [11] (rngV (con (.int 9))) (gNm 11) yes (callF F__law_changed 3 (argC (slot 1) (argC (slot 3) (argC (slot 4) argN))))))) (gNm 6)
  (gSeq (gPar 9 10 (argC (callV bRepr (argC (lstV false (argC (slot 3) (argC (slot 6) argN))) argN)) (argC (callF F__law_due 2 (argC (slot 7) (argC (slot 6) argN))) argN)))
  (gSeq (gSet 8 (lcV false [12] (rngV (con (.int 2))) (gNm 12) yes (callF F__law_told 2 (argC (slot 3) (argC (slot 6) argN)))))
  (gIf (orT (notT (tst (callF F__law_same 2 (argC (slot 8) (argC (lstV false (argC (slot 10) (argC (slot 10) argN))) argN))))) (tst (bin pNe (callV bRepr (argC (lstV false (argC (slot 3) (argC (slot 6) argN))) argN)) (slot 9))))
  (gRet (con (.bool false)))
  gSkip))))
  (gIf (notT (tst (callF F__law_same 2 (argC (callF F__law_told 2 (argC (slot 3) (argC (callF F_Falls_init 2 (argC (slot 3) (argC (bin pMulA (tupV (argC (con (.int 0)) argN)) (bin (pAdd false) (callV bLen (argC (slot 3) argN)) (con (.int 1)))) argN))) argN))) (argC (lstV false (argC (con (.str "bad")) (argC (con .none) argN))) argN)))))
  (gRet (con (.bool false)))
  gSkip)))))))
  (gRet (con (.bool true))))
noncomputable def T_law : S PyData :=
  ((((S.ret (PyData.int 8)).bind fun x1 => S.lift (rngD x1)).bind fun ds5 => S.foldF (fun (s2 : PUnit) d3 => (S.ret d3).bind fun t4 => (((((((S.ret (PyData.int 12)).bind fun x10 => ((S.ret (PyData.int 3)).bind fun x8 => ((S.ret (PyData.int 6)).bind fun x6 => (S.ret []).bind fun as7 => S.ret (x6 :: as7)).bind fun as9 => S.ret (x8 :: as9)).bind fun as11 => S.ret (x10 :: as11)).bind fun as12 => S.ret (PyData.list as12)).bind fun x15 => ((S.ret t4).bind fun x13 => (S.ret (PyData.int 3)).bind fun x14 => S.lift (oMod x13 x14)).bind fun x16 => S.lift (oIx x15 x16)).bind fun x17 => (S.ret []).bind fun as18 => S.ret (x17 :: as18)).bind (u1 T__law_tree)).bind fun v19 =>
  ((((S.ret v19).bind fun x48 => (((((S.ret (PyData.int 20)).bind fun x22 => ((S.ret (PyData.int 4)).bind fun x20 => (S.ret []).bind fun as21 => S.ret (x20 :: as21)).bind fun as23 => S.ret (x22 :: as23)).bind fun as24 => S.ret (PyData.list as24)).bind fun x27 => ((S.ret t4).bind fun x25 => (S.ret (PyData.int 2)).bind fun x26 => S.lift (oMod x25 x26)).bind fun x28 => S.lift (oIx x27 x28)).bind fun x46 => (((((S.ret (PyData.int 2)).bind fun x37 => ((S.ret (PyData.int 30)).bind fun x35 => ((((S.ret (PyData.int 10)).bind fun x29 => (S.ret (PyData.int 9)).bind fun x30 => S.lift (oPow x29 x30)).bind fun x31 => (S.ret (PyData.int 1)).bind fun x32 => S.lift (oAdd x31 x32)).bind fun x33 => (S.ret []).bind fun as34 => S.ret (x33 :: as34)).bind fun as36 => S.ret (x35 :: as36)).bind fun as38 => S.ret (x37 :: as38)).bind fun as39 => S.ret (PyData.list as39)).bind fun x42 => (((S.ret (PyData.int 3)).bind fun x40 => (S.ret []).bind fun as41 => S.ret (x40 :: as41)).bind (u1 T__law_draw)).bind fun x43 => S.lift (oIx x42 x43)).bind fun x44 => (S.ret []).bind fun as45 => S.ret (x44 :: as45)).bind fun as47 => S.ret (x46 :: as47)).bind fun as49 => S.ret (x48 :: as49)).bind (u3 T__law_pushes)).bind fun v50 =>
  (((((S.ret v19).bind fun x51 => (S.ret []).bind fun as52 => S.ret (x51 :: as52)).bind (u1 T__law_far)).bind fun x95 => (((S.ret v50).bind fun x92 => ((((S.ret v50).bind fun x53 => (S.ret []).bind fun as54 => S.ret (x53 :: as54)).bind (u1 T__law_twin)).bind fun x90 => ((S.ret v50).bind fun x88 => (((S.ret []).bind fun as55 => S.ret (PyData.tuple as55)).bind fun x86 => ((((((S.ret (PyData.int 0)).bind fun x58 => ((S.ret (PyData.int 0)).bind fun x56 => (S.ret []).bind fun as57 => S.ret (x56 :: as57)).bind fun as59 => S.ret (x58 :: as59)).bind fun as60 => S.ret (PyData.tuple as60)).bind fun x61 => (S.ret []).bind fun as62 => S.ret (x61 :: as62)).bind fun as63 => S.ret (PyData.tuple as63)).bind fun x84 => ((((((S.ret (PyData.int 0)).bind fun x66 => ((S.ret (PyData.bool false)).bind fun x64 => (S.ret []).bind fun as65 => S.ret (x64 :: as65)).bind fun as67 => S.ret (x66 :: as67)).bind fun as68 => S.ret (PyData.tuple as68)).bind fun x69 => (S.ret []).bind fun as70 => S.ret (x69 :: as70)).bind fun as71 => S.ret (PyData.tuple as71)).bind fun x82 => ((((((S.ret (PyData.bool false)).bind fun x74 => ((S.ret (PyData.int 0)).bind fun x72 => (S.ret []).bind fun as73 => S.ret (x72 :: as73)).bind fun as75 => S.ret (x74 :: as75)).bind fun as76 => S.ret (PyData.tuple as76)).bind fun x77 => (S.ret []).bind fun as78 => S.ret (x77 :: as78)).bind fun as79 => S.ret (PyData.tuple as79)).bind fun x80 => (S.ret []).bind fun as81 => S.ret (x80 :: as81)).bind fun as83 => S.ret (x82 :: as83)).bind fun as85 => S.ret (x84 :: as85)).bind fun as87 => S.ret (x86 :: as87)).bind fun as89 => S.ret (x88 :: as89)).bind fun as91 => S.ret (x90 :: as91)).bind fun as93 => S.ret (x92 :: as93)).bind fun as94 => S.ret (PyData.list as94)).bind fun x96 => S.ret (x95, x96)).bind fun v97 =>
  (((S.ret v97.2).bind fun x155 => (((((((S.ret (PyData.int 0)).bind fun x100 => ((S.ret (PyData.int 1)).bind fun x98 => (S.ret []).bind fun as99 => S.ret (x98 :: as99)).bind fun as101 => S.ret (x100 :: as101)).bind fun as102 => S.ret (PyData.tuple as102)).bind fun x103 => (S.ret []).bind fun as104 => S.ret (x103 :: as104)).bind fun as105 => S.ret (PyData.tuple as105)).bind fun x152 => ((((((S.ret (PyData.int 0)).bind fun x108 => ((S.ret (PyData.bool true)).bind fun x106 => (S.ret []).bind fun as107 => S.ret (x106 :: as107)).bind fun as109 => S.ret (x108 :: as109)).bind fun as110 => S.ret (PyData.tuple as110)).bind fun x111 => (S.ret []).bind fun as112 => S.ret (x111 :: as112)).bind fun as113 => S.ret (PyData.tuple as113)).bind fun x150 => ((((((S.ret (PyData.int 0)).bind fun x116 => ((S.ret (PyData.int 1)).bind fun x114 => (S.ret []).bind fun as115 => S.ret (x114 :: as115)).bind fun as117 => S.ret (x116 :: as117)).bind fun as118 => S.ret (PyData.tuple as118)).bind fun x119 => (S.ret []).bind fun as120 => S.ret (x119 :: as120)).bind fun as121 => S.ret (PyData.tuple as121)).bind fun x148 => (((((((S.ret (PyData.int 0)).bind fun x124 => ((S.ret (PyData.int 0)).bind fun x122 => (S.ret []).bind fun as123 => S.ret (x122 :: as123)).bind fun as125 => S.ret (x124 :: as125)).bind fun as126 => S.ret (PyData.tuple as126)).bind fun x127 => (S.ret []).bind fun as128 => S.ret (x127 :: as128)).bind fun as129 => S.ret (PyData.tuple as129)).bind fun x130 => (S.ret (PyData.int 20)).bind fun x131 => S.lift (oMulT x130 x131)).bind fun x146 => (((((((S.ret (PyData.int 0)).bind fun x134 => ((S.ret (PyData.int 0)).bind fun x132 => (S.ret []).bind fun as133 => S.ret (x132 :: as133)).bind fun as135 => S.ret (x134 :: as135)).bind fun as136 => S.ret (PyData.tuple as136)).bind fun x137 => (S.ret []).bind fun as138 => S.ret (x137 :: as138)).bind fun as139 => S.ret (PyData.tuple as139)).bind fun x140 => (S.ret (PyData.int 21)).bind fun x141 => S.lift (oMulT x140 x141)).bind fun x144 => ((S.ret PyData.none).bind fun x142 => (S.ret []).bind fun as143 => S.ret (x142 :: as143)).bind fun as145 => S.ret (x144 :: as145)).bind fun as147 => S.ret (x146 :: as147)).bind fun as149 => S.ret (x148 :: as149)).bind fun as151 => S.ret (x150 :: as151)).bind fun as153 => S.ret (x152 :: as153)).bind fun as154 => S.ret (PyData.list as154)).bind fun x156 => S.lift (oAdd x155 x156)).bind fun v157 =>
  (((((S.ret v157).bind fun x167 => (((S.ret (PyData.int 9)).bind fun x158 => S.lift (rngD x158)).bind fun ds161 => (S.lift (szD ds161)).bind fun _ => (S.mapM (fun d159 => S.noEx ((S.ret d159).bind fun s160 => (((S.ret v19).bind fun x165 => ((S.ret v50).bind fun x163 => (S.ret []).bind fun as164 => S.ret (x163 :: as164)).bind fun as166 => S.ret (x165 :: as166)).bind (u2 T__law_changed)))) ds161).bind fun xs162 => S.ret (PyData.list xs162)).bind fun x168 => S.lift (oAdd x167 x168)).bind fun x169 => S.lift (seqD x169)).bind fun ds173 => S.foldF (fun (s170 : PUnit) d171 => (S.ret d171).bind fun t172 => ((((((S.ret v19).bind fun x176 => ((S.ret t172).bind fun x174 => (S.ret []).bind fun as175 => S.ret (x174 :: as175)).bind fun as177 => S.ret (x176 :: as177)).bind fun as178 => S.ret (PyData.list as178)).bind fun x179 => S.lift (oRepr x179)).bind fun x184 => (((S.ret v97.1).bind fun x182 => ((S.ret t172).bind fun x180 => (S.ret []).bind fun as181 => S.ret (x180 :: as181)).bind fun as183 => S.ret (x182 :: as183)).bind (u2 T__law_due)).bind fun x185 => S.ret (x184, x185)).bind fun v186 =>
  ((((S.ret (PyData.int 2)).bind fun x187 => S.lift (rngD x187)).bind fun ds190 => (S.lift (szD ds190)).bind fun _ => (S.mapM (fun d188 => S.noEx ((S.ret d188).bind fun s189 => (((S.ret v19).bind fun x194 => ((S.ret t172).bind fun x192 => (S.ret []).bind fun as193 => S.ret (x192 :: as193)).bind fun as195 => S.ret (x194 :: as195)).bind (u2 T__law_told)))) ds190).bind fun xs191 => S.ret (PyData.list xs191)).bind fun v196 =>
  (((((((S.ret v196).bind fun x204 => ((((S.ret v186.2).bind fun x199 => ((S.ret v186.2).bind fun x197 => (S.ret []).bind fun as198 => S.ret (x197 :: as198)).bind fun as200 => S.ret (x199 :: as200)).bind fun as201 => S.ret (PyData.list as201)).bind fun x202 => (S.ret []).bind fun as203 => S.ret (x202 :: as203)).bind fun as205 => S.ret (x204 :: as205)).bind (u2 T__law_same)).bind fun x206 => S.lift (toB x206)).bind fun z207 => S.ret (!z207)).bind fun z216 => bOr z216 (((((S.ret v19).bind fun x210 => ((S.ret t172).bind fun x208 => (S.ret []).bind fun as209 => S.ret (x208 :: as209)).bind fun as211 => S.ret (x210 :: as211)).bind fun as212 => S.ret (PyData.list as212)).bind fun x213 => S.lift (oRepr x213)).bind fun x214 => (S.ret v186.1).bind fun x215 => S.lift (cNe x214 x215))).bind fun z217 => if z217 = true then ((S.ret (PyData.bool false)).bind fun x218 => S.ret (.rt x218)) else (S.ret (.nx PUnit.unit)))))) ds173 PUnit.unit).bind fun o219 => flF o219 fun (s220 : PUnit) =>
  ((((((((S.ret v19).bind fun x235 => ((((S.ret v19).bind fun x231 => (((((S.ret (PyData.int 0)).bind fun x221 => (S.ret []).bind fun as222 => S.ret (x221 :: as222)).bind fun as223 => S.ret (PyData.tuple as223)).bind fun x227 => (((S.ret v19).bind fun x224 => S.lift (oLen x224)).bind fun x225 => (S.ret (PyData.int 1)).bind fun x226 => S.lift (oAdd x225 x226)).bind fun x228 => S.lift (oMulT x227 x228)).bind fun x229 => (S.ret []).bind fun as230 => S.ret (x229 :: as230)).bind fun as232 => S.ret (x231 :: as232)).bind (u2 T_Falls_init)).bind fun x233 => (S.ret []).bind fun as234 => S.ret (x233 :: as234)).bind fun as236 => S.ret (x235 :: as236)).bind (u2 T__law_told)).bind fun x244 => ((((S.ret (PyData.str "bad")).bind fun x239 => ((S.ret PyData.none).bind fun x237 => (S.ret []).bind fun as238 => S.ret (x237 :: as238)).bind fun as240 => S.ret (x239 :: as240)).bind fun as241 => S.ret (PyData.list as241)).bind fun x242 => (S.ret []).bind fun as243 => S.ret (x242 :: as243)).bind fun as245 => S.ret (x244 :: as245)).bind (u2 T__law_same)).bind fun x246 => S.lift (toB x246)).bind fun z247 => S.ret (!z247)).bind fun z248 => if z248 = true then ((S.ret (PyData.bool false)).bind fun x249 => S.ret (.rt x249)) else (S.ret (.nx PUnit.unit))))))))) ds5 PUnit.unit).bind fun o250 => flR o250 fun (s251 : PUnit) =>
  (S.ret (PyData.bool true)))
theorem tt_law : Jd [none, some .dk, none, none, none, none, none, none, none, none, none, none, none] R_law T_law pR := by
  unfold T_law R_law
  exact (r_flow (s_forF (h := fun (s : PUnit) => [none, some .dk, none, none, none, none, none, none, none, none, none, none, none]) PUnit.unit (w_rng (e_con (PyData.int 8))) (.drop (.keep (.drop (.drop (.drop (.drop (.drop (.drop (.drop (.drop (.drop (.drop (.drop .nil))))))))))))) (fun s2 d3 => b_tgF (u := fun d3 => (S.ret d3)) (e' := fun (t : PyData) => [none, some .dk, some (.im t), none, none, none, none, none, none, none, none, none, none]) d3 (tg_nm 2 d3) fun t4 => (f_seq (s_setI 3 (e_callD 1 rfl (a_cons' (e_bin op_ix' (e_lst (a_cons' (e_con (PyData.int 12)) (a_cons' (e_con (PyData.int 3)) (a_cons' (e_con (PyData.int 6)) a_nil')))) (e_w (e_bin op_mod' (e_slot 2 rfl) (e_w (e_con (PyData.int 3)))))) a_nil'))) fun v19 =>
  (f_seq (s_setI 4 (e_callD 1 rfl (a_cons' (e_slot 3 rfl) (a_cons' (e_bin op_ix' (e_lst (a_cons' (e_con (PyData.int 20)) (a_cons' (e_con (PyData.int 4)) a_nil'))) (e_w (e_bin op_mod' (e_slot 2 rfl) (e_w (e_con (PyData.int 2)))))) (a_cons' (e_bin op_ix' (e_lst (a_cons' (e_con (PyData.int 2)) (a_cons' (e_con (PyData.int 30)) (a_cons' (e_bin op_add' (e_bin op_pow' (e_con (PyData.int 10)) (e_w (e_con (PyData.int 9)))) (e_w (e_con (PyData.int 1)))) a_nil')))) (e_w (e_callD 1 rfl (a_cons' (e_con (PyData.int 3)) a_nil')))) a_nil'))))) fun v50 =>
  (f_seq (s_par' 7 5 (e_call (a_cons' (e_slot 3 rfl) a_nil')) (e_lst (a_cons' (e_slot 4 rfl) (a_cons' (e_call (a_cons' (e_slot 4 rfl) a_nil')) (a_cons' (e_slot 4 rfl) (a_cons' (e_tup a_nil') (a_cons' (e_tup (a_cons' (e_tup (a_cons' (e_con (PyData.int 0)) (a_cons' (e_con (PyData.int 0)) a_nil'))) a_nil')) (a_cons' (e_tup (a_cons' (e_tup (a_cons' (e_con (PyData.int 0)) (a_cons' (e_con (PyData.bool false)) a_nil'))) a_nil')) (a_cons' (e_tup (a_cons' (e_tup (a_cons' (e_con (PyData.bool false)) (a_cons' (e_con (PyData.int 0)) a_nil'))) a_nil')) a_nil'))))))))) fun v97 =>
  (f_seq (s_setI 5 (e_bin op_add' (e_slot 5 rfl) (e_w (e_lst (a_cons' (e_tup (a_cons' (e_tup (a_cons' (e_con (PyData.int 0)) (a_cons' (e_con (PyData.int 1)) a_nil'))) a_nil')) (a_cons' (e_tup (a_cons' (e_tup (a_cons' (e_con (PyData.int 0)) (a_cons' (e_con (PyData.bool true)) a_nil'))) a_nil')) (a_cons' (e_tup (a_cons' (e_tup (a_cons' (e_con (PyData.int 0)) (a_cons' (e_con (PyData.int 1)) a_nil'))) a_nil')) (a_cons' (e_bin op_mulT' (e_tup (a_cons' (e_tup (a_cons' (e_con (PyData.int 0)) (a_cons' (e_con (PyData.int 0)) a_nil'))) a_nil')) (e_w (e_con (PyData.int 20)))) (a_cons' (e_bin op_mulT' (e_tup (a_cons' (e_tup (a_cons' (e_con (PyData.int 0)) (a_cons' (e_con (PyData.int 0)) a_nil'))) a_nil')) (e_w (e_con (PyData.int 21)))) (a_cons' (e_con PyData.none) a_nil')))))))))) fun v157 =>
  (f_flow (s_forF (h := fun (s : PUnit) => [none, some .dk, some (.im t4), some (.im v19), some (.im v50), some (.im v157), none, some (.im v97.1), none, none, none, none, none]) PUnit.unit (w_seq (e_bin op_add' (e_slot 5 rfl) (e_w (e_lc (u := fun d159 => (S.ret d159)) (e' := fun (s : PyData) => [none, some .dk, some (.im t4), some (.im v19), some (.im v50), some (.im v157), none, some (.im v97.1), none, none, none, some (.im s), none]) [11] (w_rng (e_con (PyData.int 9))) rfl (fun d159 => (tc_nm 11 d159 rfl)) (fun s160 => (e_callD 1 rfl (a_cons' (e_slot 3 rfl) (a_cons' (e_slot 4 rfl) a_nil')))))))) (.drop (.keep (.keep (.keep (.keep (.keep (.drop (.keep (.drop (.drop (.drop (.drop (.drop .nil))))))))))))) (fun s170 d171 => b_tgF (u := fun d171 => (S.ret d171)) (e' := fun (t : PyData) => [none, some .dk, some (.im t4), some (.im v19), some (.im v50), some (.im v157), some (.im t), some (.im v97.1), none, none, none, none, none]) d171 (tg_nm 6 d171) fun t172 => (f_seq (s_par' 9 10 (e_bl1 bl_repr (e_w (e_lst (a_cons' (e_slot 3 rfl) (a_cons' (e_slot 6 rfl) a_nil'))))) (e_call (a_cons' (e_slot 7 rfl) (a_cons' (e_slot 6 rfl) a_nil')))) fun v186 =>
  (f_seq (s_setI 8 (e_lc (u := fun d188 => (S.ret d188)) (e' := fun (s : PyData) => [none, some .dk, some (.im t4), some (.im v19), some (.im v50), some (.im v157), some (.im t172), some (.im v97.1), none, some (.im v186.1), some (.im v186.2), none, some (.im s)]) [12] (w_rng (e_con (PyData.int 2))) rfl (fun d188 => (tc_nm 12 d188 rfl)) (fun s189 => (e_call (a_cons' (e_slot 3 rfl) (a_cons' (e_slot 6 rfl) a_nil')))))) fun v196 =>
  (q_if (u_or (u_not (u_val (e_call (a_cons' (e_slot 8 rfl) (a_cons' (e_lst (a_cons' (e_slot 10 rfl) (a_cons' (e_slot 10 rfl) a_nil'))) a_nil'))))) (u_bin op_eqn' (e_bl1 bl_repr (e_w (e_lst (a_cons' (e_slot 3 rfl) (a_cons' (e_slot 6 rfl) a_nil'))))) (e_w (e_slot 9 rfl)))) (f_ret (e_con (PyData.bool false))) (f_skip PUnit.unit (.drop (.keep (.keep (.keep (.keep (.keep (.drop (.keep (.drop (.drop (.drop (.drop (.drop .nil))))))))))))))))))) fun s220 =>
  (q_if (u_not (u_val (e_call (a_cons' (e_call (a_cons' (e_slot 3 rfl) (a_cons' (e_call (a_cons' (e_slot 3 rfl) (a_cons' (e_bin op_mulT' (e_tup (a_cons' (e_con (PyData.int 0)) a_nil')) (e_w (e_bin op_add' (e_bl1 bl_len (e_w (e_slot 3 rfl))) (e_w (e_con (PyData.int 1)))))) a_nil'))) a_nil'))) (a_cons' (e_lst (a_cons' (e_con (PyData.str "bad")) (a_cons' (e_con PyData.none) a_nil'))) a_nil'))))) (f_ret (e_con (PyData.bool false))) (f_skip PUnit.unit (.drop (.keep (.drop (.drop (.drop (.drop (.drop (.drop (.drop (.drop (.drop (.drop (.drop .nil)))))))))))))))))))))) fun s251 =>
  (r_ret (e_con (PyData.bool true))))
end Pf

set_option maxHeartbeats 1000000
namespace Pf
open PySem PySem.Spec PyProof.Rows L2
/-! ### distances by relaxing -/
section
variable {rows : List (Int × Int)} (ok : TreeOk rows)
include ok
/-- what a sweep over all rows does -/
structure Swept (a : Nat) (d d' : Nat → Int) : Prop where
  lo : ∀ v, v ≤ rows.length → dist rows a v ≤ d' v
  le : ∀ v, v ≤ rows.length → d' v ≤ d v
  down : ∀ v, 0 < v → v ≤ rows.length → d' v ≤ d (par rows v) + lnR rows v
  up : ∀ v, 0 < v → v ≤ rows.length → d' (par rows v) ≤ d v + lnR rows v
end
/-! ### rows of numbers as functions -/
def arr (n : Nat) (d : Nat → Int) : List PyData := (List.range n).map fun v => .int (d v)
theorem arr_len (n : Nat) (d : Nat → Int) : (arr n d).length = n := by
  unfold arr
  rw [List.length_map, List.length_range]
theorem oIx_arr {n i : Nat} {d : Nat → Int} (h : i < n) : oIx (.list (arr n d)) (.int (i : Int)) = some (.int (d i)) := atI_range (fun v => PyData.int (d v)) h
theorem oMax2_i (i j : Int) : oMax2 (.int i) (.int j) = some (.int (max i j)) := by
  show some (PyData.int (if j > i then j else i)) = _
  have : (if j > i then j else i) = max i j := by split <;> omega
  rw [this]
theorem enu_rows (rows : List (Int × Int)) : (seqD (treeD rows)).map enuD = some ((List.range rows.length).map fun k => .tuple [mkD k, rowD ((rows[k]?).getD (0, 0))]) := by
  show some (enuD (rows.map rowD)) = _
  congr 1
  refine List.ext_getElem? fun i => ?_
  by_cases hi : i < rows.length
  · unfold enuD zipD
    rw [List.getElem?_zipWith, fromTo_map, List.length_map, List.getElem?_map, List.getElem?_map, List.getElem?_map, List.getElem?_range hi]
    rw [List.getElem?_eq_getElem hi]
    show some (PyData.tuple [mkD i, rowD rows[i]]) = some (PyData.tuple [mkD i, rowD ((rows[i]?).getD (0, 0))])
    rw [List.getElem?_eq_getElem hi]
    rfl
  · rw [List.getElem?_eq_none (by rw [enu_len, List.length_map]; omega), List.getElem?_eq_none (by simpa using hi)]
end Pf

set_option maxHeartbeats 1000000
namespace Pf
open PySem PySem.Spec PyProof.Rows L2
theorem rngI {i : Int} (h0 : 0 ≤ i) (h1 : i ≤ 1000000000) : rngD (.int i) = some ((List.range i.toNat).map mkD) := by
  have := rngD_ok (n := i.toNat) (by omega)
  rw [fromTo_map] at this
  rw [show ((i.toNat : Nat) : Int) = i by omega] at this
  exact this
theorem range_at {n i : Nat} {d : PyData} (h : ((List.range n).map mkD)[i]? = some d) : i < n ∧ d = mkD i := by
  rw [List.getElem?_map] at h
  by_cases hi : i < n
  · rw [List.getElem?_range hi] at h
    exact ⟨hi, (Option.some.inj h).symm⟩
  · rw [List.getElem?_eq_none (by simpa using hi)] at h
    cases h
theorem oLen_tree (rows : List (Int × Int)) : oLen (treeD rows) = some (.int (rows.length : Nat)) := by
  show some (PyData.int ((rows.map rowD).length : Nat)) = _
  rw [List.length_map]
theorem foldl_best {f : Int → Int → Int} {R : Int → Int → Prop} (rf : ∀ x, R x x) (tr : ∀ x y z, R x y → R y z → R x z) (hf : ∀ x y, (f x y = x ∨ f x y = y) ∧ R (f x y) x ∧ R (f x y) y) : ∀ (r : List Int) (n : Int), (r.foldl f n ∈ n :: r) ∧ ∀ x ∈ n :: r, R (r.foldl f n) x
  | [], n => ⟨List.mem_cons_self, fun x hx => by
    rw [List.mem_singleton.mp hx]
    exact rf _⟩
  | y :: r, n => by
    obtain ⟨h1, h2⟩ := foldl_best rf tr hf r (f n y)
    obtain ⟨c, a, b⟩ := hf n y
    refine ⟨?_, fun x hx => ?_⟩
    · rw [List.foldl_cons]
      rcases List.mem_cons.mp h1 with h | h
      · rw [h]
        rcases c with c | c
        · rw [c]
          exact List.mem_cons_self
        · rw [c]
          exact List.mem_cons_of_mem _ List.mem_cons_self
      · exact List.mem_cons_of_mem _ (List.mem_cons_of_mem _ h)
    · rw [List.foldl_cons]
      have h0 := h2 (f n y) List.mem_cons_self
      rcases List.mem_cons.mp hx with rfl | hx
      · exact tr _ _ _ h0 a
      · rcases List.mem_cons.mp hx with rfl | hx
        · exact tr _ _ _ h0 b
        · exact h2 x (List.mem_cons_of_mem _ hx)
def minL : List Int → Int
  | [] => 0
  | n :: r => r.foldl min n
theorem minL_spec {xs : List Int} (h : xs ≠ []) : minL xs ∈ xs ∧ ∀ x ∈ xs, minL xs ≤ x := by
  cases xs with
  | nil => exact absurd rfl h
  | cons n r => exact foldl_best (R := fun x y => x ≤ y) (fun x => Int.le_refl x) (fun x y z => Int.le_trans) (fun x y => ⟨by omega, by omega, by omega⟩) r n
theorem oBest_min {xs : List Int} (h : xs ≠ []) : oBest min (.list (xs.map .int)) = some (.int (minL xs)) := by
  cases xs with
  | nil => exact absurd rfl h
  | cons n r =>
    unfold oBest
    dsimp only
    rw [ints_map]
    rfl
theorem seqD_t (ds : List PyData) : seqD (.tuple ds) = some ds := rfl
theorem oLen_t (ds : List PyData) : oLen (.tuple ds) = some (.int (ds.length : Nat)) := rfl
def tAt (ts : List Int) (i : Nat) : Int := (ts[i]?).getD 0
theorem oIx_tab {xs : List Int} {i : Nat} (h : i < xs.length) : oIx (tabD xs) (.int (i : Int)) = some (.int (tAt xs i)) := oIx_t (f := PyData.int) (by unfold tAt; rw [List.getElem?_eq_getElem h]; rfl)
end Pf

set_option maxHeartbeats 1000000
namespace Pf
open PySem PySem.Spec PyProof.Rows L2
/-! ### neighbours, needed pushes -/
def pushesD (ps : List (Int × Int)) : PyData := .tuple (ps.map rowD)
/-! a list that is empty, or not -/
end Pf

set_option maxHeartbeats 1000000
namespace Pf
open PySem PySem.Spec PyProof.Rows L2
/-! ### the table of distances -/
def matD (n : Nat) (d : Nat → Nat → Int) : PyData := .list ((List.range n).map fun i => .list (arr n (d i)))
theorem oIx_mat {n i : Nat} {d : Nat → Nat → Int} (h : i < n) : oIx (matD n d) (mkD i) = some (.list (arr n (d i))) := atI_range (fun i => PyData.list (arr n (d i))) h
theorem oIx_matI {n : Nat} {i : Int} {d : Nat → Nat → Int} (h0 : 0 ≤ i) (h : i < n) : oIx (matD n d) (.int i) = some (.list (arr n (d i.toNat))) := by
  have := oIx_mat (n := n) (i := i.toNat) (d := d) (by omega)
  unfold mkD at this
  rw [show ((i.toNat : Nat) : Int) = i by omega] at this
  exact this
theorem oLen_mat (n : Nat) (d : Nat → Nat → Int) : oLen (matD n d) = some (.int (n : Nat)) := by
  show some (PyData.int (((List.range n).map fun i => PyData.list (arr n (d i))).length : Nat)) = _
  rw [List.length_map, List.length_range]
theorem mat_next' {rows : List (Int × Int)} (ok : TreeOk rows) {i : Nat} (hi : i < rows.length) : matD (i + 1 + 1) (dist rows) =
    .list ((List.range (i + 1)).map (fun m => PyData.list (arr (i + 1) (dist rows m) ++ [.int (dist rows (par rows (i + 1)) m + lnR rows (i + 1))])) ++ [.list (arr (i + 1) (fun m => dist rows (par rows (i + 1)) m + lnR rows (i + 1)) ++ [.int 0])]) := by
  obtain ⟨r, _, _, _, hlt, _⟩ := row_of ok (m := i + 1) (by omega) (by omega)
  unfold matD
  congr 1
  rw [List.range_succ (n := i + 1), List.map_append]
  congr 1
  · refine List.map_congr_left fun m hm => ?_
    have hm' : m < i + 1 := List.mem_range.mp hm
    congr 1
    unfold arr
    rw [List.range_succ, List.map_append]
    congr 1
    show [PyData.int (dist rows m (i + 1))] = _
    rw [dist_lt ok hm' (by omega), dist_comm ok _ m (par rows (i + 1)) (Nat.lt_succ_self _) (by omega) (by omega)]
  · show [PyData.list _] = _
    congr 2
    unfold arr
    rw [List.range_succ, List.map_append]
    congr 1
    · refine List.map_congr_left fun m hm => ?_
      have hm' : m < i + 1 := List.mem_range.mp hm
      rw [dist_gt ok hm' (by omega), Int.add_comm]
    · show [PyData.int (dist rows (i + 1) (i + 1))] = _
      rw [dist_eq ok]
theorem enu_rng (n : Nat) (f : Nat → PyData) : enuD ((List.range n).map f) = (List.range n).map fun k => .tuple [mkD k, f k] := by
  refine List.ext_getElem? fun i => ?_
  by_cases hi : i < n
  · unfold enuD zipD
    rw [List.getElem?_zipWith, fromTo_map, List.length_map, List.length_range, List.getElem?_map, List.getElem?_map, List.getElem?_map, List.getElem?_range hi]
    rfl
  · rw [List.getElem?_eq_none (by rw [enu_len, List.length_map, List.length_range]; omega), List.getElem?_eq_none (by simpa using hi)]
theorem T_dists {rows : List (Int × Int)} (g : TreeG rows) : T_distances_of (treeD rows) = S.ret (matD (rows.length + 1) (dist rows)) := by
  have ok := g.ok
  have hl := g.len
  have es : seqD (treeD rows) = some (rows.map rowD) := rfl
  unfold T_distances_of
  simp only [S.ret_bind, es, S.lift_some, S.bind_ret]
  refine S.foldM_eq (fun i (s : PyData) => s = matD (i + 1) (dist rows)) ?_ (fun i s x hs hx => ?_) fun s hs => ?_
  · show _ = PyData.list _
    simp [arr, dist_eq ok]
  · by_cases hi : i < rows.length
    · subst hs
      obtain ⟨r, er, hp, hln, hlt, _⟩ := row_of ok (m := i + 1) (by omega) (by omega)
      rw [Nat.add_sub_cancel] at er
      rw [List.getElem?_map, er] at hx
      cases hx
      have e4 : oIx (matD (i + 1) (dist rows)) (.int ((par rows (i + 1) : Nat) : Int)) = some (.list (arr (i + 1) (dist rows (par rows (i + 1))))) := oIx_mat (by omega)
      have e5 : seqD (PyData.list (arr (i + 1) (dist rows (par rows (i + 1))))) = some ((List.range (i + 1)).map fun v => PyData.int (dist rows (par rows (i + 1)) v)) := rfl
      simp only [S.lift_some, S.ret_bind, rowD, un2, hp, hln, e4, e5]
      rw [szD_ok (by rw [List.length_map, List.length_range]; omega), S.lift_some, S.ret_bind, S.mapM_map, S.mapM_ret (g := fun m => PyData.int (dist rows (par rows (i + 1)) m + lnR rows (i + 1)))]
      · simp only [S.ret_bind]
        have e6 : (seqD (matD (i + 1) (dist rows))).map enuD = some ((List.range (i + 1)).map fun k => .tuple [mkD k, .list (arr (i + 1) (dist rows k))]) := by
          show some (enuD ((List.range (i + 1)).map fun i_1 => .list (arr (i + 1) (dist rows i_1)))) = _
          rw [enu_rng]
        rw [e6, S.lift_some, S.ret_bind, szD_ok (by rw [List.length_map, List.length_range]; omega), S.lift_some, S.ret_bind]
        rw [S.mapM_map, S.mapM_ret (g := fun m => PyData.list (arr (i + 1) (dist rows m) ++ [.int (dist rows (par rows (i + 1)) m + lnR rows (i + 1))]))]
        · refine ⟨_, ?_, rfl⟩
          have ec : oAdd (.list ((List.range (i + 1)).map fun m => PyData.int (dist rows (par rows (i + 1)) m + lnR rows (i + 1)))) (.list [.int 0]) = some (.list (arr (i + 1) (fun m => dist rows (par rows (i + 1)) m + lnR rows (i + 1)) ++ [.int 0])) := oAdd_l (by rw [List.length_map, List.length_range, List.length_singleton]; omega)
          simp only [S.ret_bind, ec, S.lift_some]
          rw [oAdd_l (by rw [List.length_map, List.length_range, List.length_singleton]; omega), S.lift_some, mat_next' ok hi]
        · intro m hm
          have hm := List.mem_range.mp hm
          have e3 : oIx (.list ((List.range (i + 1)).map fun m => PyData.int (dist rows (par rows (i + 1)) m + lnR rows (i + 1)))) (mkD m) = some (.int (dist rows (par rows (i + 1)) m + lnR rows (i + 1))) := atI_range (fun m => PyData.int (dist rows (par rows (i + 1)) m + lnR rows (i + 1))) hm
          simp only [un2_t, S.lift_some, S.ret_bind, e3]
          rw [oAdd_l (by rw [arr_len, List.length_singleton]; omega), S.lift_some, S.noEx_ret]
      · intro m hm
        simp only [S.lift_some, S.ret_bind, oAdd_i, S.noEx_ret]
    · rw [List.getElem?_eq_none (by simpa using hi)] at hx
      cases hx
  · rw [hs, List.length_map]
def fallsL (d : Nat → Nat → Int) (ps : List (Int × Int)) (n : Nat) : List Int := (List.range n).map fun m => minL (ps.map fun p => p.2 + d p.1.toNat m)
/-! ### pairs -/
end Pf

set_option maxHeartbeats 1000000
namespace Pf
open PySem PySem.Spec PyProof.Rows L2
/-! ### kinds, numbers, is_table -/
theorem isi_t (ds : List PyData) : oIsi "tuple" (.tuple ds) = some (.bool true) := by
  unfold oIsi
  have : kitB (tyN (.dat (.tuple ds))) "tuple" = some true := by
    show kitB "tuple" "tuple" = some true
    decide +kernel
  rw [this]
  rfl
theorem isi_i (i : Int) : oIsi "int" (.int i) = some (.bool true) := by
  unfold oIsi
  have : kitB (tyN (.dat (.int i))) "int" = some true := by
    show kitB "int" "int" = some true
    decide +kernel
  rw [this]
  rfl
theorem isi_ib (i : Int) : oIsi "bool" (.int i) = some (.bool false) := by
  unfold oIsi
  have : kitB (tyN (.dat (.int i))) "bool" = some false := by
    show kitB "int" "bool" = some false
    decide +kernel
  rw [this]
  rfl
theorem oAbs_i (i : Int) : oAbs (.int i) = some (.int i.natAbs) := by
  show some (PyData.int (if i < 0 then -i else i)) = _
  congr 2
  split <;> omega
theorem oAll_map {α : Type} (f : α → Bool) (xs : List α) : oAll (.list (xs.map fun x => PyData.bool (f x))) = some (.bool (xs.all f)) := by
  have e : (xs.map fun x => PyData.bool (f x)) = (xs.map f).map PyData.bool := by
    rw [List.map_map]
    rfl
  rw [e]
  show (asBools ((xs.map f).map PyData.bool)).map (fun bs => PyData.bool (bs.all id)) = _
  rw [asBools_map, Option.map, List.all_map]
  rfl
theorem T_isnum (i : Int) : T_is_number (.int i) = S.ret (.bool true) := by
  unfold T_is_number
  simp only [S.ret_bind, isi_i, isi_ib, toB_b, S.lift_some, dAnd, if_true, Bool.not_false]
theorem T_num (i lo hi : Int) : T_is_number_from_to (.int i) (.int lo) (.int hi) = S.ret (.bool (decide (lo ≤ i) && decide (i ≤ hi))) := by
  unfold T_is_number_from_to
  simp only [S.ret_bind, u1, T_isnum, toB_b, S.lift_some, dAnd, if_true, cLe_i, asB2_b, vAnd]
  by_cases h : lo ≤ i
  · simp only [decide_eq_true h, if_true, Bool.true_and]
  · simp only [decide_eq_false h, Bool.false_eq_true, if_false, Bool.false_and]
def rowB (rows : List (Int × Int)) (ts : List Int) (k : Nat) : Bool := decide (((tAt ts (k + 1) - tAt ts (par rows (k + 1))).natAbs : Int) ≤ lnR rows (k + 1))
def tabB (rows : List (Int × Int)) (ts : List Int) : Bool := ts.all (fun t => decide (0 ≤ t) && decide (t ≤ 2000000000)) && (List.range rows.length).all (rowB rows ts)
theorem T_table {rows : List (Int × Int)} (g : TreeG rows) {ts : List Int} (hl : ts.length = rows.length + 1) : T_is_table (treeD rows) (tabD ts) = S.ret (.bool (tabB rows ts)) := by
  have hg := g.len
  have e1 : oIsi "tuple" (tabD ts) = some (.bool true) := isi_t _
  have e2 : oLen (tabD ts) = some (.int ((rows.length : Nat) + 1 : Int)) := by
    unfold tabD
    rw [oLen_t, List.length_map, hl]
    rfl
  have e3 : seqD (tabD ts) = some (ts.map .int) := rfl
  unfold T_is_table
  simp only [S.ret_bind, e1, e2, e3, oLen_tree, S.lift_some, toB_b, bOr, Bool.not_true, Bool.false_eq_true, if_false, oAdd_i, cNe_i, decide_true, enu_rows, u3, S.bind_assoc]
  rw [szD_ok (by rw [List.length_map]; omega), S.lift_some, S.ret_bind, S.mapM_map, S.mapM_ret (g := fun t => PyData.bool (decide (0 ≤ t) && decide (t ≤ 2000000000)))]
  · rw [S.ret_bind, oAll_map, S.lift_some, S.ret_bind, toB_b, S.lift_some, S.ret_bind]
    unfold tabB
    cases ha : ts.all fun t => decide (0 ≤ t) && decide (t ≤ 2000000000) with
    | false =>
      simp only [Bool.not_false, if_true, Bool.false_and]
    | true =>
      simp only [Bool.not_true, Bool.false_eq_true, if_false, Bool.true_and]
      rw [szD_ok (by rw [List.length_map, List.length_range]; omega), S.lift_some, S.ret_bind, S.mapM_map, S.mapM_ret (g := fun k => PyData.bool (rowB rows ts k))]
      · rw [S.ret_bind, oAll_map, S.lift_some]
      · intro k hk
        have hk := List.mem_range.mp hk
        obtain ⟨r, hr, rp, rl, hp, l1, l2⟩ := row_of g.ok (show 0 < k + 1 by omega) (show k + 1 ≤ rows.length by omega)
        have hr' : rows[k]? = some r := hr
        have er : (rows[k]?).getD (0, 0) = r := by rw [hr']; rfl
        have i1 : oIx (tabD ts) (.int ((k : Int) + 1)) = some (.int (tAt ts (k + 1))) := oIx_tab (i := k + 1) (by omega)
        have i2 : oIx (tabD ts) (.int r.1) = some (.int (tAt ts (par rows (k + 1)))) := by
          rw [rp]
          exact oIx_tab (by omega)
        unfold rowB
        simp only [un2_t, rowD, S.lift_some, S.ret_bind, mkD, er, oAdd_i, i1, i2, oSub_i, oAbs_i, cLe_i, asB2_b, S.noEx_ret, ← rl]
  · intro t _
    rw [T_num, S.noEx_ret]
end Pf

set_option maxHeartbeats 1000000
namespace Pf
open PySem PySem.Spec PyProof.Rows L2
/-! ### judgements upon any data -/
def isTup : PyData → Bool
  | .tuple _ => true
  | _ => false
def isIntB : PyData → Bool
  | .int _ => true
  | .bool _ => true
  | _ => false
def isBoolB : PyData → Bool
  | .bool _ => true
  | _ => false
theorem isi_of {n m : String} {d : PyData} {b : Bool} (h : tyN (.dat d) = m) (k : kitB m n = some b) (nb : isOb d = false ∨ (b = false ∧ n ∈ kitTys) := by first | exact Or.inl rfl | exact Or.inr ⟨rfl, by decide⟩) : oIsi n d = some (.bool b) := by
  unfold oIsi
  rw [h, k]
  show (if isOb d = true then (if n ∈ kitTys then some (PyData.bool false) else none) else some (PyData.bool b)) = _
  rcases nb with nb | ⟨rfl, hn⟩
  · rw [if_neg (by rw [nb]; exact Bool.false_ne_true)]
  · rw [if_pos hn]
    split <;> rfl
theorem isi_tup (d : PyData) : oIsi "tuple" d = some (.bool (isTup d)) := by
  cases d with
  | none => exact isi_of (b := false) (m := "NoneType") rfl (by decide +kernel)
  | bool b => exact isi_of (b := false) (m := "bool") rfl (by decide +kernel)
  | int i => exact isi_of (b := false) (m := "int") rfl (by decide +kernel)
  | str x => exact isi_of (b := false) (m := "str") rfl (by decide +kernel)
  | list x => exact isi_of (b := false) (m := "list") rfl (by decide +kernel)
  | tuple x => exact isi_of (b := true) (m := "tuple") rfl (by decide +kernel)
  | dict x => exact isi_of (b := false) (m := "dict") rfl (by decide +kernel)
theorem isi_int (d : PyData) : oIsi "int" d = some (.bool (isIntB d)) := by
  cases d with
  | none => exact isi_of (b := false) (m := "NoneType") rfl (by decide +kernel)
  | bool b => exact isi_of (b := true) (m := "bool") rfl (by decide +kernel)
  | int i => exact isi_of (b := true) (m := "int") rfl (by decide +kernel)
  | str x => exact isi_of (b := false) (m := "str") rfl (by decide +kernel)
  | list x => exact isi_of (b := false) (m := "list") rfl (by decide +kernel)
  | tuple x => exact isi_of (b := false) (m := "tuple") rfl (by decide +kernel)
  | dict x => exact isi_of (b := false) (m := "dict") rfl (by decide +kernel)
theorem isi_bool (d : PyData) : oIsi "bool" d = some (.bool (isBoolB d)) := by
  cases d with
  | none => exact isi_of (b := false) (m := "NoneType") rfl (by decide +kernel)
  | bool b => exact isi_of (b := true) (m := "bool") rfl (by decide +kernel)
  | int i => exact isi_of (b := false) (m := "int") rfl (by decide +kernel)
  | str x => exact isi_of (b := false) (m := "str") rfl (by decide +kernel)
  | list x => exact isi_of (b := false) (m := "list") rfl (by decide +kernel)
  | tuple x => exact isi_of (b := false) (m := "tuple") rfl (by decide +kernel)
  | dict x => exact isi_of (b := false) (m := "dict") rfl (by decide +kernel)
theorem int_or (d : PyData) : (∃ i, d = .int i) ∨ (isIntB d = false ∨ isBoolB d = true) := by
  cases d with
  | int i => exact .inl ⟨i, rfl⟩
  | bool b => exact .inr (.inr rfl)
  | _ => exact .inr (.inl rfl)
theorem notnum {d : PyData} (h : isIntB d = false ∨ isBoolB d = true) : T_is_number d = S.ret (.bool false) := by
  unfold T_is_number
  simp only [S.ret_bind, isi_int, isi_bool, toB_b, S.lift_some, dAnd]
  rcases h with h | h
  · simp only [h, Bool.false_eq_true, if_false]
  · simp only [h, Bool.not_true]
    cases isIntB d <;> rfl
def numB (d : PyData) (lo hi : Int) : Bool := match d with
  | .int i => decide (lo ≤ i) && decide (i ≤ hi)
  | _ => false
theorem numB_not {d : PyData} (h : isIntB d = false ∨ isBoolB d = true) (lo hi : Int) : numB d lo hi = false := by
  cases d with
  | int i => rcases h with h | h <;> cases h
  | _ => rfl
theorem T_numA (d : PyData) (lo hi : Int) : T_is_number_from_to d (.int lo) (.int hi) = S.ret (.bool (numB d lo hi)) := by
  rcases int_or d with ⟨i, rfl⟩ | h
  · exact T_num i lo hi
  · unfold T_is_number_from_to
    simp only [S.ret_bind, u1, notnum h, toB_b, S.lift_some, dAnd, Bool.false_eq_true, if_false, numB_not h]
def iOf (d : PyData) : Int := match d with
  | .int i => i
  | _ => 0
theorem numB_int {a : PyData} {lo hi : Int} (h : numB a lo hi = true) : ∃ i, a = .int i ∧ lo ≤ i ∧ i ≤ hi := by
  cases a with
  | int i =>
    have : (decide (lo ≤ i) && decide (i ≤ hi)) = true := h
    rw [Bool.and_eq_true, decide_eq_true_eq, decide_eq_true_eq] at this
    exact ⟨i, rfl, this⟩
  | _ => cases h
end Pf

set_option maxHeartbeats 1000000
namespace Pf
open PySem PySem.Spec PyProof.Rows L2
/-! ### data that can be shown -/
structure Gd (d : PyData) (n k : Nat) : Prop where
  lf : lfs d = true
  dp : d.depth ≤ k
  sz : wt d ≤ n
  ob : noOb d = true
theorem Gd.up {d : PyData} {n k n' k' : Nat} (h : Gd d n k) (hn : n ≤ n') (hk : k ≤ k') : Gd d n' k' := ⟨h.lf, Nat.le_trans h.dp hk, Nat.le_trans h.sz hn, h.ob⟩
theorem Fine.gd {d : PyData} {n k : Nat} (h : Fine d n k) : Gd d n k := ⟨h.lf, h.dp, h.sz, noOb_nd h.nd⟩
theorem Gd.list {ds : List PyData} {n k : Nat} (h : ∀ d ∈ ds, Gd d n k) : Gd (.list ds) ((n + 2) * ds.length + 2) (k + 1) :=
  ⟨by simp only [lfs]; exact lfss_of fun d hd => (h d hd).lf, by simp only [PyData.depth]; exact Nat.succ_le_succ (depth_of fun d hd => (h d hd).dp), by simp only [wt]; exact Nat.add_le_add_right (wts_le fun d hd => (h d hd).sz) 2, by simp only [noOb]; exact noObAll_of fun d hd => (h d hd).ob⟩
theorem Gd.tuple {ds : List PyData} {n k : Nat} (h : ∀ d ∈ ds, Gd d n k) : Gd (.tuple ds) ((n + 2) * ds.length + 3) (k + 1) :=
  ⟨by simp only [lfs]; exact lfss_of fun d hd => (h d hd).lf, by simp only [PyData.depth]; exact Nat.succ_le_succ (depth_of fun d hd => (h d hd).dp), by simp only [wt]; exact Nat.add_le_add_right (wts_le fun d hd => (h d hd).sz) 3, by simp only [noOb]; exact noObAll_of fun d hd => (h d hd).ob⟩
theorem Gd.tup {ds : List PyData} {n k m : Nat} (h : ∀ d ∈ ds, Gd d n k) (hl : ds.length ≤ m) : Gd (.tuple ds) ((n + 2) * m + 3) (k + 1) := (Gd.tuple h).up (Nat.add_le_add_right (Nat.mul_le_mul_left _ hl) 3) (Nat.le_refl _)
theorem Gd.lst {ds : List PyData} {n k m : Nat} (h : ∀ d ∈ ds, Gd d n k) (hl : ds.length ≤ m) : Gd (.list ds) ((n + 2) * m + 3) (k + 1) := (Gd.list h).up (Nat.le_succ_of_le (Nat.add_le_add_right (Nat.mul_le_mul_left _ hl) 2)) (Nat.le_refl _)
theorem Gd.bool (b : Bool) : Gd (.bool b) 44 0 := (Fine.bool b).gd
theorem Gd.int {i : Int} (h : -1000000000000 ≤ i ∧ i ≤ 1000000000000) : Gd (.int i) 44 0 := (fine_int h).gd
def gdB (d : PyData) (n k : Nat) : Bool := lfs d && decide (d.depth ≤ k) && decide (wt d ≤ n) && noOb d
theorem Gd.of {d : PyData} {n k : Nat} (h : gdB d n k = true) : Gd d n k := by
  obtain ⟨h, h4⟩ := Bool.and_eq_true_iff.mp h
  obtain ⟨h, h3⟩ := Bool.and_eq_true_iff.mp h
  obtain ⟨h1, h2⟩ := Bool.and_eq_true_iff.mp h
  exact ⟨h1, of_decide_eq_true h2, of_decide_eq_true h3, h4⟩
theorem okReprG {d : PyData} {n k : Nat} (h : Gd d n k) (hk : k ≤ 60) (hn : n ≤ 1000000) : oRepr d = some (.str d.shown) := if_pos (by
  have h1 := shown_le d h.lf
  have h2 := h.sz
  have h3 := h.dp
  unfold okShow
  rw [showable_of d h.lf, decide_eq_true (show d.depth ≤ 60 by omega), show szOk d.shown.length = true from decide_eq_true (by omega), h.ob]
  rfl)
theorem oAdd_ll {xs ys : List PyData} (h : xs.length + ys.length ≤ 1000000) : oAdd (.list xs) (.list ys) = some (.list (xs ++ ys)) := if_pos h
theorem oAdd_tt {xs ys : List PyData} (h : xs.length + ys.length ≤ 1000000) : oAdd (.tuple xs) (.tuple ys) = some (.tuple (xs ++ ys)) := if_pos h

theorem can_pick [Fam] {L : List PyData} {P : PyData → Prop} {i : Int} (h0 : 0 ≤ i) (h1 : i < L.length) (h : ∀ x ∈ L, P x) : Can 0 (S.lift (oIx (.list L) (.int i))) P := by
  obtain ⟨x, hx, e⟩ := oIx_mem h0 h1
  rw [e, S.lift_some]
  exact Can.ret (h x hx)
theorem oList_tt (ds : List PyData) : oList (.tuple ds) = some (.list ds) := rfl
theorem oRev_tt (ds : List PyData) : oRevT (.tuple ds) = some (.tuple ds.reverse) := rfl
end Pf

set_option maxHeartbeats 1000000
namespace Pf
open PySem PySem.Spec PyProof.Rows L2
/-! ### pushes and their falls -/
theorem T_tick (i : Int) : T_is_tick (.int i) = S.ret (.bool (decide (0 ≤ i) && decide (i ≤ 1000000000))) := by
  unfold T_is_tick
  simp only [S.ret_bind, u3, T_num]
theorem T_mark (rows : List (Int × Int)) (i : Int) : T_is_mark (treeD rows) (.int i) = S.ret (.bool (decide (0 ≤ i) && decide (i ≤ rows.length))) := by
  unfold T_is_mark
  simp only [S.ret_bind, oLen_tree, S.lift_some, u3, T_num]
def pushB (rows : List (Int × Int)) (p : Int × Int) : Bool := (decide (0 ≤ p.1) && decide (p.1 ≤ rows.length)) && (decide (0 ≤ p.2) && decide (p.2 ≤ 1000000000))
theorem isi_row (p : Int × Int) : oIsi "tuple" (rowD p) = some (.bool true) := isi_t _
theorem oLen_row (p : Int × Int) : oLen (rowD p) = some (.int 2) := rfl
theorem T_push (rows : List (Int × Int)) (p : Int × Int) : T_is_push (treeD rows) (rowD p) = S.ret (.bool (pushB rows p)) := by
  unfold T_is_push pushB
  simp only [S.ret_bind, isi_row, toB_b, S.lift_some, bOr, Bool.not_true, Bool.false_eq_true, if_false, oLen_row, cNe_i, decide_true, oIx_row0, oIx_row1, u2, u1, T_mark, T_tick, dAnd]
  cases decide (0 ≤ p.1) && decide (p.1 ≤ (rows.length : Int)) <;> simp
def PushR (n : Nat) (p : Int × Int) : Prop := 0 ≤ p.1 ∧ p.1 < n ∧ 0 ≤ p.2 ∧ p.2 ≤ 1000000000
theorem PushR.b {rows : List (Int × Int)} {p : Int × Int} (h : PushR (rows.length + 1) p) : pushB rows p = true := by
  obtain ⟨a, b, c, d⟩ := h
  have b' : p.1 ≤ rows.length := by omega
  simp [pushB, a, b', c, d]
theorem T_fallFrom {n : Nat} {d : Nat → Int} {ps : List (Int × Int)} (hne : ps ≠ []) (hl : ps.length ≤ 1000) (hp : ∀ p ∈ ps, 0 ≤ p.1 ∧ p.1 < n) : T__fall_from (.list (arr n d)) (pushesD ps) = S.ret (.int (minL (ps.map fun p => p.2 + d p.1.toNat))) := by
  have e0 : seqD (pushesD ps) = some (ps.map rowD) := rfl
  unfold T__fall_from
  simp only [S.ret_bind, e0, S.lift_some]
  rw [szD_ok (by rw [List.length_map]; omega), S.lift_some, S.ret_bind, S.mapM_map, S.mapM_ret (g := fun p => PyData.int (p.2 + d p.1.toNat))]
  · have e : (ps.map fun p => PyData.int (p.2 + d p.1.toNat)) = (ps.map fun p => p.2 + d p.1.toNat).map PyData.int := by
      rw [List.map_map]
      rfl
    rw [S.ret_bind, S.ret_bind, e, oBest_min (fun z => hne (List.map_eq_nil_iff.mp z)), S.lift_some]
  · intro p hpm
    obtain ⟨p0, p1⟩ := hp p hpm
    have ep : p.1 = ((p.1.toNat : Nat) : Int) := (Int.toNat_of_nonneg p0).symm
    have e3 : oIx (.list (arr n d)) (.int p.1) = some (.int (d p.1.toNat)) := by
      rw [ep]
      exact oIx_arr (by omega)
    simp only [rowD, un2_t, S.lift_some, S.ret_bind, e3, oAdd_i, S.noEx_ret]
def fallsR (rows ps : List (Int × Int)) : List Int := fallsL (fun a b => dist rows b a) ps (rows.length + 1)
theorem enu_list {α : Type} (f : α → PyData) (z : α) (xs : List α) : enuD (xs.map f) = (List.range xs.length).map fun k => .tuple [mkD k, f ((xs[k]?).getD z)] := by
  have e : xs.map f = (List.range xs.length).map fun k => f ((xs[k]?).getD z) := by
    refine List.ext_getElem? fun i => ?_
    rw [List.getElem?_map, List.getElem?_map]
    by_cases h : i < xs.length
    · rw [List.getElem?_range h, List.getElem?_eq_getElem h]
      simp [List.getElem?_eq_getElem h]
    · rw [List.getElem?_eq_none (by omega), List.getElem?_eq_none (by rw [List.length_range]; omega)]
      rfl
  rw [e, enu_rng]
theorem T_fallsOf {rows : List (Int × Int)} (g : TreeG rows) {ps : List (Int × Int)} (hne : ps ≠ []) (hl : ps.length ≤ 20) (hp : ∀ p ∈ ps, PushR (rows.length + 1) p) : T_falls_of (treeD rows) (pushesD ps) = S.ret (tabD (fallsR rows ps)) := by
  have hg := g.len
  have e1 : oIsi "tuple" (pushesD ps) = some (.bool true) := isi_t _
  have e2 : oLen (pushesD ps) = some (.int (ps.length : Nat)) := by
    unfold pushesD
    rw [oLen_t, List.length_map]
  have e3 : seqD (pushesD ps) = some (ps.map rowD) := rfl
  have l1 : 1 ≤ ps.length := by
    cases ps with
    | nil => exact absurd rfl hne
    | cons _ _ => exact Nat.succ_le_succ (Nat.zero_le _)
  unfold T_falls_of
  simp only [S.ret_bind, e1, e2, e3, S.lift_some, toB_b, bOr, bAnd, Bool.not_true, Bool.false_eq_true, if_false, cLe_i, Option.map_some, enu_list rowD (0, 0), decide_eq_true (show (1 : Int) ≤ (ps.length : Nat) by omega), decide_eq_true (show ((ps.length : Nat) : Int) ≤ 20 by omega), if_true]
  rw [foldF_find' (fun _ => none)]
  · have hn : ∀ xs : List Nat, xs.findSome? (fun _ => (none : Option PyData)) = none := fun xs => by
      induction xs with
      | nil => rfl
      | cons x xs ih => rw [List.findSome?_cons, ih]
    rw [hn]
    simp only [flO, S.ret_bind, flR, u1, T_dists g]
    have e4 : seqD (matD (rows.length + 1) (dist rows)) = some ((List.range (rows.length + 1)).map fun i => PyData.list (arr (rows.length + 1) (dist rows i))) := rfl
    rw [e4, S.lift_some, S.ret_bind, szD_ok (by rw [List.length_map, List.length_range]; omega), S.lift_some, S.ret_bind, S.mapM_map, S.mapM_ret (g := fun i => PyData.int (minL (ps.map fun p => p.2 + dist rows i p.1.toNat)))]
    · rw [S.ret_bind, S.ret_bind, oTuple_l, S.lift_some]
      unfold tabD fallsR fallsL
      rw [List.map_map]
      rfl
    · intro i hi
      simp only [u2, T_fallFrom (n := rows.length + 1) (d := dist rows i) hne (by omega) (fun p hpm => ⟨(hp p hpm).1, (hp p hpm).2.1⟩), S.noEx_ret]
  · intro k hk
    have hk := List.mem_range.mp hk
    have hb : pushB rows ((ps[k]?).getD (0, 0)) = true := by
      rw [List.getElem?_eq_getElem hk]
      exact (hp _ (List.getElem_mem hk)).b
    simp only [un2_t, S.lift_some, S.ret_bind, u2, T_push, hb, toB_b, Bool.not_true, Bool.false_eq_true, if_false, flO]
end Pf

set_option maxHeartbeats 1000000
namespace Pf
open PySem PySem.Spec PyProof.Rows L2
/-! ### two trees joined by a row -/
def joinL (rows : List (Int × Int)) (m : Nat) (l : Int) (rs : List (Int × Int)) : List (Int × Int) := rows ++ ((m : Int), l) :: rs.map fun r => (r.1 + ((rows.length : Nat) + 1 : Int), r.2)
section
variable {rows rs : List (Int × Int)} {m : Nat} {l : Int}
variable (ok : TreeOk rows) (ok2 : TreeOk rs) (hm : m ≤ rows.length) (okW : TreeOk (joinL rows m l rs))
end
end Pf

set_option maxHeartbeats 1000000
namespace Pf
open PySem PySem.Spec PyProof.Rows L2
/-! ### falls and needed pushes in a joined tree -/
theorem fallsR_len (rows ps : List (Int × Int)) : (fallsR rows ps).length = rows.length + 1 := by
  unfold fallsR fallsL
  rw [List.length_map, List.length_range]
section
variable {rows rs : List (Int × Int)} {m : Nat} {l : Int} (ok : TreeOk rows) (ok2 : TreeOk rs) (hm : m ≤ rows.length) (okW : TreeOk (joinL rows m l rs)) (hl : 1 ≤ l)
end
end Pf

set_option maxHeartbeats 1000000
namespace Pf
open PySem PySem.Spec PyProof.Rows L2
/-! ### equality of data without bools and dicts -/
mutual
def clean : PyData → Bool
  | .none => true
  | .int _ => true
  | .str _ => true
  | .bool _ => false
  | .dict _ => false
  | .list xs => cleanAll xs
  | .tuple xs => cleanAll xs
def cleanAll : List PyData → Bool
  | [] => true
  | x :: xs => clean x && cleanAll xs
end
theorem cleanAll_mem : ∀ {ds : List PyData}, (∀ d ∈ ds, clean d = true) → cleanAll ds = true
  | [], _ => by simp only [cleanAll]
  | d :: ds, h => by simp only [cleanAll, h d List.mem_cons_self, cleanAll_mem fun e he => h e (List.mem_cons_of_mem _ he), Bool.and_self]
mutual
theorem eqv_clean : ∀ (d e : PyData), clean d = true → clean e = true → (PyData.eqv d e = true ↔ d = e)
  | .none, .none, _, _ => by simp [PyData.eqv]
  | .none, .int _, _, _ => by simp [PyData.eqv]
  | .none, .str _, _, _ => by simp [PyData.eqv]
  | .none, .list _, _, _ => by simp [PyData.eqv]
  | .none, .tuple _, _, _ => by simp [PyData.eqv]
  | .int _, .none, _, _ => by simp [PyData.eqv]
  | .int i, .int j, _, _ => by simp [PyData.eqv]
  | .int _, .str _, _, _ => by simp [PyData.eqv]
  | .int _, .list _, _, _ => by simp [PyData.eqv]
  | .int _, .tuple _, _, _ => by simp [PyData.eqv]
  | .str _, .none, _, _ => by simp [PyData.eqv]
  | .str _, .int _, _, _ => by simp [PyData.eqv]
  | .str x, .str y, _, _ => by simp [PyData.eqv]
  | .str _, .list _, _, _ => by simp [PyData.eqv]
  | .str _, .tuple _, _, _ => by simp [PyData.eqv]
  | .list _, .none, _, _ => by simp [PyData.eqv]
  | .list _, .int _, _, _ => by simp [PyData.eqv]
  | .list _, .str _, _, _ => by simp [PyData.eqv]
  | .list xs, .list ys, h1, h2 => by
    simp only [clean] at h1 h2
    simp only [PyData.eqv, PyData.list.injEq]
    exact eqvAll_clean xs ys h1 h2
  | .list _, .tuple _, _, _ => by simp [PyData.eqv]
  | .tuple _, .none, _, _ => by simp [PyData.eqv]
  | .tuple _, .int _, _, _ => by simp [PyData.eqv]
  | .tuple _, .str _, _, _ => by simp [PyData.eqv]
  | .tuple _, .list _, _, _ => by simp [PyData.eqv]
  | .tuple xs, .tuple ys, h1, h2 => by
    simp only [clean] at h1 h2
    simp only [PyData.eqv, PyData.tuple.injEq]
    exact eqvAll_clean xs ys h1 h2
  | .bool _, _, h, _ => by simp [clean] at h
  | .dict _, _, h, _ => by simp [clean] at h
  | .none, .bool _, _, h => by simp [clean] at h
  | .none, .dict _, _, h => by simp [clean] at h
  | .int _, .bool _, _, h => by simp [clean] at h
  | .int _, .dict _, _, h => by simp [clean] at h
  | .str _, .bool _, _, h => by simp [clean] at h
  | .str _, .dict _, _, h => by simp [clean] at h
  | .list _, .bool _, _, h => by simp [clean] at h
  | .list _, .dict _, _, h => by simp [clean] at h
  | .tuple _, .bool _, _, h => by simp [clean] at h
  | .tuple _, .dict _, _, h => by simp [clean] at h
theorem eqvAll_clean : ∀ (ds es : List PyData), cleanAll ds = true → cleanAll es = true → (PyData.eqvAll ds es = true ↔ ds = es)
  | [], [], _, _ => by simp [PyData.eqvAll]
  | [], _ :: _, _, _ => by simp [PyData.eqvAll]
  | _ :: _, [], _, _ => by simp [PyData.eqvAll]
  | x :: xs, y :: ys, h1, h2 => by
    simp only [cleanAll, Bool.and_eq_true] at h1 h2
    simp only [PyData.eqvAll, Bool.and_eq_true, List.cons.injEq]
    rw [eqv_clean x y h1.1 h2.1, eqvAll_clean xs ys h1.2 h2.2]
end
theorem layAll_mem : ∀ {ds : List PyData}, (∀ d ∈ ds, d.canLay0 = true) → PyData.canLayAll0 ds = true
  | [], _ => by simp only [PyData.canLayAll0]
  | d :: ds, h => by simp only [PyData.canLayAll0, h d List.mem_cons_self, layAll_mem fun e he => h e (List.mem_cons_of_mem _ he), Bool.and_self]
theorem depAll_mem {k : Nat} : ∀ {ds : List PyData}, (∀ d ∈ ds, d.depth ≤ k) → PyData.depthAll ds ≤ k
  | [], _ => by
    simp only [PyData.depthAll]
    exact Nat.zero_le _
  | d :: ds, h => by
    simp only [PyData.depthAll]
    exact Nat.max_le.mpr ⟨h d List.mem_cons_self, depAll_mem fun e he => h e (List.mem_cons_of_mem _ he)⟩
/-- data without bools and dicts, at most so deep -/
structure Cln (d : PyData) (k : Nat) : Prop where
  lay : d.canLay0 = true
  dp : d.depth ≤ k
  cl : clean d = true
theorem Cln.non : Cln .none 0 := ⟨by simp only [PyData.canLay0], by simp only [PyData.depth]; exact Nat.le_refl _, by simp only [clean]⟩
theorem Cln.int (i : Int) : Cln (.int i) 0 := ⟨by simp only [PyData.canLay0], by simp only [PyData.depth]; exact Nat.le_refl _, by simp only [clean]⟩
theorem Cln.tuple {ds : List PyData} {k : Nat} (h : ∀ d ∈ ds, Cln d k) : Cln (.tuple ds) (k + 1) := ⟨by
  simp only [PyData.canLay0]
  exact layAll_mem fun d hd => (h d hd).lay, by
  simp only [PyData.depth]
  have := depAll_mem (k := k) fun d hd => (h d hd).dp
  omega, by
  simp only [clean]
  exact cleanAll_mem fun d hd => (h d hd).cl⟩
theorem Cln.list {ds : List PyData} {k : Nat} (h : ∀ d ∈ ds, Cln d k) : Cln (.list ds) (k + 1) := ⟨by
  simp only [PyData.canLay0]
  exact layAll_mem fun d hd => (h d hd).lay, by
  simp only [PyData.depth]
  have := depAll_mem (k := k) fun d hd => (h d hd).dp
  omega, by
  simp only [clean]
  exact cleanAll_mem fun d hd => (h d hd).cl⟩
theorem Cln.up {d : PyData} {k k' : Nat} (h : Cln d k) (hk : k ≤ k') : Cln d k' := ⟨h.lay, Nat.le_trans h.dp hk, h.cl⟩
theorem Cln.shaped {d : PyData} {k : Nat} (h : Cln d k) (hk : k ≤ 64) : SeqAt.shaped d = true := by
  unfold SeqAt.shaped
  rw [h.lay, decide_eq_true (Nat.le_trans h.dp hk)]
  rfl
theorem Cln.tab (ts : List Int) : Cln (tabD ts) 1 := Cln.tuple fun d hd => by
  obtain ⟨t, _, rfl⟩ := List.mem_map.mp hd
  exact Cln.int t
end Pf

set_option maxHeartbeats 1000000
namespace Pf
open PySem PySem.Spec PyProof.Rows L2
theorem cut_to {α : Type} (xs : List α) (b : Nat) : cutL xs none (some (b : Int)) = xs.take b := by
  unfold cutL
  rw [HT.sIx_none, show HT.sIx xs.length xs.length (some (b : Int)) = min b xs.length from HT.sIx_nat xs.length xs.length b, List.drop_zero, Nat.sub_zero]
  rcases Nat.le_total b xs.length with h | h
  · rw [Nat.min_eq_left h]
  · rw [Nat.min_eq_right h, List.take_length, List.take_of_length_le h]
end Pf

set_option maxHeartbeats 1000000
namespace Pf
open PySem PySem.Spec PyProof.Rows L2
/-! ### hung, joined, is_tree -/
theorem T_row {rows : List (Int × Int)} (ok : TreeOk rows) {k : Nat} {r : Int × Int} (h : rows[k]? = some r) : T_is_row (rowD r) (mkD k) = S.ret (.bool true) := by
  obtain ⟨a, b, c, d⟩ := ok k r h
  unfold T_is_row
  simp only [S.ret_bind, isi_row, toB_b, S.lift_some, bOr, Bool.not_true, Bool.false_eq_true, if_false, oLen_row, cNe_i, decide_true, oIx_row0, oIx_row1, u3, mkD, T_num, decide_eq_true a, decide_eq_true b, decide_eq_true c, decide_eq_true d, Bool.and_self, dAnd, if_true]
theorem T_treeErr {rows : List (Int × Int)} (ok : TreeOk rows) (hl : rows.length ≤ 11) : T_tree_error (treeD rows) = S.ret .none := by
  have e1 : oIsi "tuple" (treeD rows) = some (.bool true) := isi_t _
  have e3 : (seqD (treeD rows)).map enuD = some ((List.range rows.length).map fun k => .tuple [mkD k, rowD ((rows[k]?).getD (0, 0))]) := enu_rows rows
  unfold T_tree_error
  simp only [S.ret_bind, e1, toB_b, S.lift_some, bOr, Bool.not_true, Bool.false_eq_true, if_false, oLen_tree, oSub_i, cGt_i, decide_eq_false (show ¬ (12 - 1 : Int) < (rows.length : Nat) by omega), e3]
  rw [foldF_find' (fun _ => none)]
  · have hn : ∀ xs : List Nat, xs.findSome? (fun _ => (none : Option PyData)) = none := fun xs => by
      induction xs with
      | nil => rfl
      | cons x xs ih => rw [List.findSome?_cons, ih]
    rw [hn]
    simp only [flO, S.ret_bind, flR]
  · intro k hk
    have hk := List.mem_range.mp hk
    have he : rows[k]? = some ((rows[k]?).getD (0, 0)) := by
      rw [List.getElem?_eq_getElem hk]
      rfl
    simp only [un2_t, S.lift_some, S.ret_bind, u2, T_row ok he, toB_b, Bool.not_true, Bool.false_eq_true, if_false, flO]
theorem Cln.tree (rows : List (Int × Int)) : Cln (treeD rows) 2 := Cln.tuple fun d hd => by
  obtain ⟨r, _, rfl⟩ := List.mem_map.mp hd
  refine Cln.tuple fun d hd => ?_
  simp only [List.mem_cons, List.not_mem_nil, or_false] at hd
  rcases hd with rfl | rfl <;> exact Cln.int _
theorem Cln.way (w : List Nat) : Cln (wayD w) 1 := Cln.tuple fun d hd => by
  obtain ⟨r, _, rfl⟩ := List.mem_map.mp hd
  exact Cln.int _
end Pf

set_option maxHeartbeats 1000000
namespace Pf
open PySem PySem.Spec PyProof.Rows L2
/-! ### possible tables, their needed pushes -/
structure Poss (rows : List (Int × Int)) (ts : List Int) : Prop where
  len : ts.length = rows.length + 1
  edge : ∀ k, 0 < k → k ≤ rows.length → tAt ts k ≤ tAt ts (par rows k) + lnR rows k ∧ tAt ts (par rows k) ≤ tAt ts k + lnR rows k
section
variable {rows : List (Int × Int)} {ts : List Int} (ok : TreeOk rows) (hp : Poss rows ts)
end
end Pf

set_option maxHeartbeats 1000000
namespace Pf
open PySem PySem.Spec PyProof.Rows L2
/-! ### judgements upon any data -/
theorem T_tickA (d : PyData) : T_is_tick d = S.ret (.bool (numB d 0 1000000000)) := by
  unfold T_is_tick
  simp only [S.ret_bind, u3, T_numA]
theorem T_markA (rows : List (Int × Int)) (d : PyData) : T_is_mark (treeD rows) d = S.ret (.bool (numB d 0 (rows.length : Nat))) := by
  unfold T_is_mark
  simp only [S.ret_bind, oLen_tree, S.lift_some, u3, T_numA]
def pshB (n : Nat) (d : PyData) : Bool := match d with
  | .tuple [a, b] => numB a 0 (n : Nat) && numB b 0 1000000000
  | _ => false
theorem T_pushA (rows : List (Int × Int)) (d : PyData) : T_is_push (treeD rows) d = S.ret (.bool (pshB rows.length d)) := by
  unfold T_is_push
  cases d with
  | tuple ds =>
    simp only [S.ret_bind, isi_tup, isTup, toB_b, S.lift_some, bOr, Bool.not_true, Bool.false_eq_true, if_false, oLen_t, cNe_i]
    match ds with
    | [] => rfl
    | [a] => rfl
    | [a, b] =>
      have i0 : oIx (.tuple [a, b]) (.int 0) = some a := rfl
      have i1 : oIx (.tuple [a, b]) (.int 1) = some b := rfl
      simp only [List.length_cons, List.length_nil, i0, i1, S.lift_some, S.ret_bind, u2, u1, T_markA, T_tickA, toB_b, dAnd]
      rw [show (!decide (((0 + 1 + 1 : Nat) : Int) = 2)) = false from rfl]
      simp only [Bool.false_eq_true, if_false, pshB]
      cases numB a 0 (rows.length : Nat) <;> simp
    | a :: b :: c :: r =>
      have n2 : (!decide (((a :: b :: c :: r).length : Int) = 2)) = true := by
        rw [decide_eq_false]
        · rfl
        · simp only [List.length_cons]
          omega
      simp only [n2, if_true]
      rfl
  | _ => simp only [S.ret_bind, isi_tup, isTup, toB_b, S.lift_some, bOr, Bool.not_false, if_true] <;> rfl
def pOf (d : PyData) : Int × Int := match d with
  | .tuple [a, b] => (iOf a, iOf b)
  | _ => (0, 0)
def itemsD (d : PyData) : List PyData := match d with
  | .tuple ds => ds
  | _ => []
def psB (n : Nat) (d : PyData) : Bool := match d with
  | .tuple ds => decide (1 ≤ ds.length) && decide (ds.length ≤ 20) && ds.all (pshB n)
  | _ => false
theorem pshB_yes {n : Nat} {d : PyData} (h : pshB n d = true) : d = rowD (pOf d) ∧ ((0 ≤ (pOf d).1 ∧ (pOf d).1 ≤ (n : Nat)) ∧ 0 ≤ (pOf d).2 ∧ (pOf d).2 ≤ 1000000000) := by
  unfold pshB at h
  split at h
  · rename_i a b
    obtain ⟨h1, h2⟩ := Bool.and_eq_true_iff.mp h
    obtain ⟨i, rfl, i0, i1⟩ := numB_int h1
    obtain ⟨j, rfl, j0, j1⟩ := numB_int h2
    exact ⟨rfl, ⟨i0, i1⟩, j0, j1⟩
  · cases h
theorem psB_yes {n : Nat} {d : PyData} (h : psB n d = true) : d = pushesD ((itemsD d).map pOf) ∧ (itemsD d).map pOf ≠ [] ∧ ((itemsD d).map pOf).length ≤ 20 ∧ ∀ p ∈ (itemsD d).map pOf, (0 ≤ p.1 ∧ p.1 ≤ (n : Nat)) ∧ 0 ≤ p.2 ∧ p.2 ≤ 1000000000 := by
  unfold psB at h
  split at h
  · rename_i ds
    obtain ⟨h, h3⟩ := Bool.and_eq_true_iff.mp h
    obtain ⟨h1, h2⟩ := Bool.and_eq_true_iff.mp h
    have h1 := of_decide_eq_true h1
    have h2 := of_decide_eq_true h2
    have h3 := List.all_eq_true.mp h3
    show PyData.tuple ds = _ ∧ (ds.map pOf) ≠ [] ∧ (ds.map pOf).length ≤ 20 ∧ ∀ p ∈ ds.map pOf, _
    refine ⟨?_, fun z => ?_, by rw [List.length_map]; exact h2, fun p hp => ?_⟩
    · show PyData.tuple ds = .tuple ((ds.map pOf).map rowD)
      rw [List.map_map]
      congr 1
      conv => lhs; rw [← List.map_id ds]
      exact List.map_congr_left fun x hx => (pshB_yes (h3 x hx)).1
    · rw [List.map_eq_nil_iff.mp z] at h1
      exact absurd h1 (by decide)
    · obtain ⟨x, hx, rfl⟩ := List.mem_map.mp hp
      exact (pshB_yes (h3 x hx)).2
  · cases h
/-! ### marks -/
end Pf

set_option maxHeartbeats 1000000
namespace Pf
open PySem PySem.Spec PyProof.Rows L2
theorem can_drawA {L : Int} (h0 : 0 < L) (h1 : L < 1073741824) : Can 1 (T__law_draw (.int L)) fun d => ∃ r : Int, d = .int r ∧ 0 ≤ r ∧ r < L := Can.drawA h0 h1
theorem can_treeA {most : Int} (h0 : 1 ≤ most) (h1 : most ≤ 12) : Can 40 (T__law_tree (.int most)) fun d => ∃ rows : List (Int × Int), d = treeD rows ∧ TreeOk rows ∧ (rows.length : Int) + 1 ≤ most := by
  unfold T__law_tree
  simp only [S.ret_bind, u1, S.bind_assoc, p106, S.lift_some, S.bind_ret]
  refine Can.up (n := 1 + (1 + (1 + (1 + (2 * 12 + 0))))) ?_ (by omega)
  refine (can_drawA (by omega) (by omega)).bind fun d ⟨c0, hd, c00, c01⟩ => ?_
  subst hd
  simp only [oAdd_i, S.lift_some, S.ret_bind]
  refine (can_drawA (by decide) (by decide)).bind fun d ⟨c1, hd, c10, c11⟩ => ?_
  subst hd
  obtain ⟨x, hx, ex⟩ := oIx_mem (xs := [PyData.int (1 + c0), .int most]) c10 c11
  obtain ⟨cnt, rfl, t0, t1⟩ : ∃ cnt : Int, x = .int cnt ∧ 1 ≤ cnt ∧ cnt ≤ most := by
    simp only [List.mem_cons, List.not_mem_nil, or_false] at hx
    rcases hx with rfl | rfl
    · exact ⟨_, rfl, by omega, by omega⟩
    · exact ⟨_, rfl, by omega, by omega⟩
  simp only [ex, S.lift_some, S.ret_bind]
  refine (can_drawA (by decide) (by decide)).bind fun d ⟨way, hd, w0, w1⟩ => ?_
  subst hd
  refine (can_drawA (by decide) (by decide)).bind fun d ⟨r, hd, r0, r1⟩ => ?_
  subst hd
  obtain ⟨x, hx, ex⟩ := oIx_mem (xs := [PyData.int 1, .int 3, .int 9, .int 1000000]) r0 r1
  obtain ⟨top, rfl, t0', t1'⟩ : ∃ top : Int, x = .int top ∧ 1 ≤ top ∧ top ≤ 1000000 := by
    simp only [List.mem_cons, List.not_mem_nil, or_false] at hx
    rcases hx with rfl | rfl | rfl | rfl
    · exact ⟨1, rfl, by decide, by decide⟩
    · exact ⟨3, rfl, by decide, by decide⟩
    · exact ⟨9, rfl, by decide, by decide⟩
    · exact ⟨1000000, rfl, by decide, by decide⟩
  simp only [ex, S.lift_some, S.ret_bind, oSub_i, rngI (show 0 ≤ cnt - 1 by omega) (show cnt - 1 ≤ 1000000000 by omega)]
  refine Can.up (n := 2 * ((List.range (cnt - 1).toNat).map mkD).length) ?_ (by rw [List.length_map, List.length_range]; omega)
  refine Can.imp (Can.foldM (fun i (s : PyData) => ∃ rows : List (Int × Int), s = treeD rows ∧ TreeOk rows ∧ rows.length = i) 0 ⟨[], rfl, TreeOk.nil, rfl⟩ (fun i s x ⟨rows, hs, ok, hl⟩ hx => ?_)) fun s ⟨rows, hs, ok, hl⟩ => ⟨rows, hs, ok, ?_⟩
  · have hi : i < (cnt - 1).toNat ∧ x = mkD i := by
      rw [List.getElem?_map] at hx
      by_cases hi : i < (cnt - 1).toNat
      · rw [List.getElem?_range hi] at hx
        exact ⟨hi, (Option.some.inj hx).symm⟩
      · rw [List.getElem?_eq_none (by simpa using hi)] at hx
        cases hx
    obtain ⟨hi, rfl⟩ := hi
    subst hs
    rw [Nat.zero_add] at hl ⊢
    simp only [mkD, oAdd_i, oSub_i, oMax2_i, S.lift_some, S.ret_bind]
    refine Can.up (n := 1 + (1 + 0)) ?_ (by omega)
    refine (can_drawA (L := (i : Int) + 1) (by omega) (by omega)).bind fun d ⟨q, hd, q0, q1⟩ => ?_
    subst hd
    obtain ⟨y, hy, ey⟩ := oIx_mem (xs := [PyData.int q, .int (i : Int), .int 0, .int (max 0 ((i : Int) - 1))]) w0 w1
    obtain ⟨p, rfl, p0, p1⟩ : ∃ p : Int, y = .int p ∧ 0 ≤ p ∧ p ≤ i := by
      simp only [List.mem_cons, List.not_mem_nil, or_false] at hy
      rcases hy with rfl | rfl | rfl | rfl
      · exact ⟨_, rfl, by omega, by omega⟩
      · exact ⟨_, rfl, by omega, by omega⟩
      · exact ⟨_, rfl, by omega, by omega⟩
      · exact ⟨_, rfl, by omega, by omega⟩
    simp only [ey, S.lift_some, S.ret_bind]
    refine Can.bind (can_drawA (L := top) (by omega) (by omega)) fun d ⟨l, hd, l0, l1⟩ => ?_
    subst hd
    simp only [oAdd_i, S.lift_some, S.ret_bind]
    have e : oAdd (treeD rows) (.tuple [.tuple [.int p, .int (1 + l)]]) = some (treeD (rows ++ [(p, 1 + l)])) := by
      unfold treeD
      rw [oAdd_t (by rw [List.length_map, List.length_singleton]; omega), List.map_append]
      rfl
    rw [e, S.lift_some]
    exact Can.ret ⟨_, rfl, ok.snoc p0 (by omega) (by omega) (by omega), by rw [List.length_append, hl]; rfl⟩
  · rw [List.length_map, List.length_range] at hl
    omega
theorem T_farA {rows : List (Int × Int)} (g : TreeG rows) : T__law_far (treeD rows) = S.ret (matD (rows.length + 1) (dist rows)) := by
  have ok := g.ok
  have hl := g.len
  unfold T__law_far
  simp only [S.ret_bind, oLen_tree, S.lift_some, rngD_ok (show rows.length ≤ 1000000000 by omega), fromTo_map, S.bind_ret]
  refine S.foldM_eq (fun i (s : PyData) => s = matD (i + 1) (dist rows)) ?_ (fun i s x hs hx => ?_) fun s hs => ?_
  · show _ = PyData.list _
    simp [arr, dist_eq ok]
  · rw [List.getElem?_map] at hx
    by_cases hi : i < rows.length
    · rw [List.getElem?_range hi] at hx
      cases hx
      subst hs
      obtain ⟨r, er, hp, hln, hlt, _⟩ := row_of ok (m := i + 1) (by omega) (by omega)
      rw [Nat.add_sub_cancel] at er
      have e0 : oIx (treeD rows) (mkD i) = some (rowD r) := oIx_t er
      have e2 : ((i : Nat) : Int) + 1 = ((i + 1 : Nat) : Int) := by omega
      simp only [e0, S.lift_some, S.ret_bind, rowD, un2, hp, hln]
      have er2 : rngD (.int ((i + 1 : Nat) : Int)) = some ((List.range (i + 1)).map mkD) := by rw [rngD_ok (by omega), fromTo_map]
      have ea : oAdd (mkD i) (.int 1) = some (.int ((i + 1 : Nat) : Int)) := by
        show some (PyData.int ((i : Int) + 1)) = _
        rw [e2]
      simp only [ea, S.lift_some, S.ret_bind, er2]
      rw [szD_ok (by rw [List.length_map, List.length_range]; omega), S.lift_some, S.ret_bind, S.mapM_map, S.mapM_ret (g := fun m => PyData.int (dist rows (par rows (i + 1)) m + lnR rows (i + 1)))]
      · simp only [S.ret_bind]
        rw [S.mapM_map, S.mapM_ret (g := fun m => PyData.list (arr (i + 1) (dist rows m) ++ [.int (dist rows (par rows (i + 1)) m + lnR rows (i + 1))]))]
        · refine ⟨_, ?_, rfl⟩
          have ec : oAdd (.list ((List.range (i + 1)).map fun m => PyData.int (dist rows (par rows (i + 1)) m + lnR rows (i + 1)))) (.list [.int 0]) = some (.list (arr (i + 1) (fun m => dist rows (par rows (i + 1)) m + lnR rows (i + 1)) ++ [.int 0])) := oAdd_l (by rw [List.length_map, List.length_range, List.length_singleton]; omega)
          simp only [S.ret_bind, ec, S.lift_some]
          rw [oAdd_l (by rw [List.length_map, List.length_range, List.length_singleton]; omega), S.lift_some, mat_next' ok hi]
        · intro m hm
          have hm := List.mem_range.mp hm
          have e3 : oIx (.list ((List.range (i + 1)).map fun m => PyData.int (dist rows (par rows (i + 1)) m + lnR rows (i + 1)))) (mkD m) = some (.int (dist rows (par rows (i + 1)) m + lnR rows (i + 1))) := atI_range (fun m => PyData.int (dist rows (par rows (i + 1)) m + lnR rows (i + 1))) hm
          simp only [oIx_mat hm, S.lift_some, S.ret_bind, e3]
          rw [oAdd_l (by rw [arr_len, List.length_singleton]; omega), S.lift_some, S.noEx_ret]
      · intro m hm
        have hm := List.mem_range.mp hm
        have e3 : oIx (.list (arr (i + 1) (dist rows (par rows (i + 1))))) (mkD m) = some (.int (dist rows (par rows (i + 1)) m)) := oIx_arr hm
        have e4 : oIx (matD (i + 1) (dist rows)) (.int ((par rows (i + 1) : Nat) : Int)) = some (.list (arr (i + 1) (dist rows (par rows (i + 1))))) := oIx_mat (by omega)
        simp only [e4, S.lift_some, S.ret_bind, e3, oAdd_i, S.noEx_ret]
    · rw [List.getElem?_eq_none (by simpa using hi)] at hx
      cases hx
  · rw [hs, List.length_map, List.length_range]
/-! ### falls, tables -/
end Pf

set_option maxHeartbeats 1000000
namespace Pf
open PySem PySem.Spec PyProof.Rows L2
theorem fallsL_R {rows ps : List (Int × Int)} (ok : TreeOk rows) (h : ∀ p ∈ ps, 0 ≤ p.1 ∧ p.1 < ((rows.length + 1 : Nat) : Int)) : fallsL (dist rows) ps (rows.length + 1) = fallsR rows ps := by
  unfold fallsR fallsL
  refine List.map_congr_left fun k hk => ?_
  have hk := List.mem_range.mp hk
  congr 1
  refine List.map_congr_left fun p hp => ?_
  have := h p hp
  rw [dist_comm ok _ p.1.toNat k (Nat.lt_succ_self _) (by omega) (by omega)]
end Pf

set_option maxHeartbeats 1000000
namespace Pf
open PySem PySem.Spec PyProof.Rows L2
theorem can_pushesA {rows : List (Int × Int)} (hl : rows.length ≤ 11) {most late : Int} (h0 : 1 ≤ most) (h1 : most ≤ 20) (l0 : 1 ≤ late) (l1 : late ≤ 1000000001) : Can 50 (T__law_pushes (treeD rows) (.int most) (.int late)) fun d => ∃ ps : List (Int × Int), d = pushesD ps ∧ ps ≠ [] ∧ ps.length ≤ 20 ∧ ∀ p ∈ ps, (0 ≤ p.1 ∧ p.1 < (rows.length : Int) + 1) ∧ 0 ≤ p.2 ∧ p.2 < late := by
  unfold T__law_pushes
  simp only [S.ret_bind, u1, S.bind_assoc, S.bind_ret, S.lift_some, oLen_tree, oAdd_i]
  refine Can.up (n := 1 + 2 * 20) ?_ (by omega)
  refine (can_drawA (by omega) (by omega)).bind fun d ⟨m, hd, m0, m1⟩ => ?_
  subst hd
  simp only [oAdd_i, S.lift_some, S.ret_bind, rngI (show 0 ≤ 1 + m by omega) (show 1 + m ≤ 1000000000 by omega)]
  refine Can.up (n := 2 * ((List.range (1 + m).toNat).map mkD).length + 0) ?_ (by rw [List.length_map, List.length_range]; omega)
  refine (Can.foldM (fun i (s : List PyData) => ∃ ps : List (Int × Int), s = ps.map rowD ∧ ps.length = i ∧ ∀ p ∈ ps, (0 ≤ p.1 ∧ p.1 < (rows.length : Int) + 1) ∧ 0 ≤ p.2 ∧ p.2 < late) 0 ⟨[], rfl, rfl, by intro p hp; cases hp⟩ (fun i s x ⟨ps, hs, hpl, hps⟩ hx => ?_)).bind fun s ⟨ps, hs, hpl, hps⟩ => ?_
  · have hi : i < (1 + m).toNat := by
      have := (List.getElem?_eq_some_iff.mp hx).1
      simpa using this
    subst hs
    rw [Nat.zero_add] at hpl ⊢
    refine Can.up (n := 1 + (1 + 0)) ?_ (by omega)
    refine (can_drawA (by omega) (by omega)).bind fun d ⟨a, hd, a0, a1⟩ => ?_
    subst hd
    refine (can_drawA (by omega) (by omega)).bind fun d ⟨b, hd, b0, b1⟩ => ?_
    subst hd
    rw [appD_ok (by rw [List.length_map]; omega), S.lift_some]
    refine Can.ret ⟨ps ++ [(a, b)], by rw [List.map_append]; rfl, by rw [List.length_append, hpl]; rfl, fun p hp => ?_⟩
    rcases List.mem_append.mp hp with h | h
    · exact hps p h
    · rw [List.mem_singleton.mp h]
      exact ⟨⟨a0, by omega⟩, b0, b1⟩
  · subst hs
    rw [List.length_map, List.length_range, Nat.zero_add] at hpl
    have hne : ps ≠ [] := fun z => by
      rw [z] at hpl
      simp at hpl
      omega
    rw [oTuple_l, S.lift_some]
    exact Can.ret ⟨ps, rfl, hne, by omega, hps⟩
end Pf

set_option maxHeartbeats 1000000
namespace Pf
open PySem PySem.Spec PyProof.Rows L2
/-! ### falls_of of any data, the index told -/
def firstBad (n : Nat) (ds : List PyData) : Option Nat := (List.range ds.length).find? fun k => !pshB n ((ds[k]?).getD .none)
def badD (d : PyData) : PyData := .list [.str "bad", d]
def outD (rows : List (Int × Int)) (v : PyData) : PyData := match v with
  | .tuple ds => if decide (1 ≤ ds.length) && decide (ds.length ≤ 20) then (match firstBad rows.length ds with
    | some k => badD (mkD k)
    | none => tabD (fallsR rows (ds.map pOf))) else badD .none
  | _ => badD .none
theorem find_none {α : Type} {p : α → Bool} : ∀ {xs : List α}, xs.find? (fun x => !p x) = none → xs.all p = true
  | [], _ => rfl
  | x :: xs, h => by
    rw [List.find?_cons] at h
    cases c : p x with
    | true =>
      rw [c] at h
      rw [List.all_cons, c, find_none h]
      rfl
    | false =>
      rw [c] at h
      cases h
theorem foldF_thrE {α β : Type} {enc : α → PyData} {f : PUnit → PyData → S (Fl PUnit)} {K : Fl PUnit → S β} (p : α → Bool) (e : α → Ec) : ∀ {xs : List α}, (∀ x ∈ xs, f ⟨⟩ (enc x) = if p x = true then S.ret (.nx ⟨⟩) else S.thr (e x)) → (S.foldF f (xs.map enc) ⟨⟩).bind K = match xs.find? (fun x => !p x) with | some x => S.thr (e x) | none => K (.nx ⟨⟩)
  | [], _ => rfl
  | x :: xs, h => by
    rw [List.map_cons, List.find?_cons]
    unfold S.foldF
    rw [h x List.mem_cons_self]
    cases c : p x with
    | true =>
      rw [if_pos rfl, S.ret_bind]
      exact foldF_thrE p e fun y hy => h y (List.mem_cons_of_mem _ hy)
    | false =>
      rw [if_neg Bool.false_ne_true, S.thr_bind, S.thr_bind]
      rfl
theorem psh_all {n : Nat} {ds : List PyData} (h : firstBad n ds = none) : ds.all (pshB n) = true := by
  have q := List.all_eq_true.mp (find_none h)
  refine List.all_eq_true.mpr fun x hx => ?_
  obtain ⟨k, hk, rfl⟩ := List.getElem_of_mem hx
  have := q k (List.mem_range.mpr hk)
  rw [List.getElem?_eq_getElem hk] at this
  exact this
theorem T_fallsOut {rows : List (Int × Int)} (g : TreeG rows) (v : PyData) : T__law_told (treeD rows) v = S.ret (outD rows v) := by
  have bad : ∀ d, entAt [⟨"BadPushes", "index", .l [.s "bad", .f]⟩] "BadPushes" "index" d = some (badD d) := fun d => by
    unfold entAt
    rw [if_pos ⟨rfl, rfl⟩]
    rfl
  unfold T__law_told
  simp only [S.ret_bind, u2]
  cases v with
  | tuple ds =>
    by_cases h1 : 1 ≤ ds.length
    · by_cases h2 : ds.length ≤ 20
      · cases hf : firstBad rows.length ds with
        | none =>
          have ha := psh_all hf
          have hb : psB rows.length (.tuple ds) = true := by
            show (decide (1 ≤ ds.length) && decide (ds.length ≤ 20) && ds.all (pshB rows.length)) = true
            rw [decide_eq_true h1, decide_eq_true h2, ha]
            rfl
          obtain ⟨e, hne, hl, hp⟩ := psB_yes hb
          have e2 : outD rows (.tuple ds) = tabD (fallsR rows (ds.map pOf)) := by
            simp only [outD, decide_eq_true h1, decide_eq_true h2, Bool.and_self, if_true, hf]
          have ei : itemsD (.tuple ds) = ds := rfl
          rw [ei] at e hne hl hp
          rw [e2, e, T_fallsOf g hne hl fun p h => ?_]
          · exact S.tryX_ret _ _
          · have := hp p h
            exact ⟨this.1.1, by omega, this.2.1, this.2.2⟩
        | some k =>
          have e2 : outD rows (.tuple ds) = badD (mkD k) := by
            simp only [outD, decide_eq_true h1, decide_eq_true h2, Bool.and_self, if_true, hf]
          rw [e2]
          have e3 : T_falls_of (treeD rows) (.tuple ds) = S.thr ⟨"BadPushes", some ("index", mkD k)⟩ := by
            unfold T_falls_of
            simp only [S.ret_bind, isi_tup, isTup, toB_b, S.lift_some, bOr, bAnd, Bool.not_true, Bool.false_eq_true, if_false, oLen_t, cLe_i, seqD_t, Option.map_some]
            rw [decide_eq_true (show (1 : Int) ≤ (ds.length : Nat) by omega), decide_eq_true (show ((ds.length : Nat) : Int) ≤ 20 by omega)]
            simp only [if_true, S.ret_bind, Bool.not_true, Bool.false_eq_true, if_false]
            have en := enu_list id PyData.none ds
            rw [List.map_id] at en
            rw [en, foldF_thrE (enc := fun k => PyData.tuple [mkD k, id ((ds[k]?).getD PyData.none)]) (fun k => pshB rows.length ((ds[k]?).getD .none)) (fun k => ⟨"BadPushes", some ("index", mkD k)⟩) fun k hk => ?_]
            · have hf : (List.range ds.length).find? (fun k => !pshB rows.length ((ds[k]?).getD .none)) = some k := hf
              rw [hf]
            · simp only [un2_t, S.lift_some, S.ret_bind, u2, T_pushA, toB_b, id]
              cases pshB rows.length ((ds[k]?).getD .none) <;> rfl
          rw [e3]
          exact S.tryX_thr _ (bad _)
      · have e2 : outD rows (.tuple ds) = badD .none := by
          simp only [outD, decide_eq_false h2, Bool.and_false, Bool.false_eq_true, if_false]
        rw [e2]
        have e3 : T_falls_of (treeD rows) (.tuple ds) = S.thr ⟨"BadPushes", some ("index", .none)⟩ := by
          unfold T_falls_of
          simp only [S.ret_bind, isi_tup, isTup, toB_b, S.lift_some, bOr, bAnd, Bool.not_true, Bool.false_eq_true, if_false, oLen_t, cLe_i, seqD_t, Option.map_some]
          rw [decide_eq_true (show (1 : Int) ≤ (ds.length : Nat) by omega), decide_eq_false (show ¬ ((ds.length : Nat) : Int) ≤ 20 by omega)]
          rfl
        rw [e3]
        exact S.tryX_thr _ (bad _)
    · have e2 : outD rows (.tuple ds) = badD .none := by
        simp only [outD, decide_eq_false h1, Bool.false_and, Bool.false_eq_true, if_false]
      rw [e2]
      have e3 : T_falls_of (treeD rows) (.tuple ds) = S.thr ⟨"BadPushes", some ("index", .none)⟩ := by
        unfold T_falls_of
        simp only [S.ret_bind, isi_tup, isTup, toB_b, S.lift_some, bOr, bAnd, Bool.not_true, Bool.false_eq_true, if_false, oLen_t, cLe_i, seqD_t, Option.map_some]
        rw [decide_eq_false (show ¬ (1 : Int) ≤ (ds.length : Nat) by omega)]
        rfl
      rw [e3]
      exact S.tryX_thr _ (bad _)
  | _ =>
    refine Eq.trans (congrArg _ (?_ : T_falls_of (treeD rows) _ = S.thr ⟨"BadPushes", some ("index", .none)⟩)) (S.tryX_thr _ (bad _))
    unfold T_falls_of
    simp only [S.ret_bind, isi_tup, isTup, toB_b, S.lift_some, bOr, Bool.not_false, if_true] <;> rfl
theorem T_fallsT {n : Nat} (hn : n ≤ 1000) {d : Nat → Nat → Int} {ps : List (Int × Int)} (hne : ps ≠ []) (hl : ps.length ≤ 1000) (hp : ∀ p ∈ ps, 0 ≤ p.1 ∧ p.1 < n) : T__law_falls (matD n d) (.tuple (ps.map rowD)) = S.ret (tabD (fallsL d ps n)) := by
  unfold T__law_falls
  simp only [S.ret_bind, oLen_mat, S.lift_some, rngD_ok (show n ≤ 1000000000 by omega), fromTo_map, seqD_t]
  refine S.foldM_bind (fun i (s : List PyData) => s = (fallsL d ps i).map .int) rfl (fun i s x hs hx => ?_) fun s hs => ?_
  · rw [List.getElem?_map] at hx
    by_cases hi : i < n
    · rw [List.getElem?_range hi] at hx
      cases hx
      subst hs
      rw [szD_ok (by rw [List.length_map]; omega), S.lift_some, S.ret_bind, S.mapM_map, S.mapM_ret (g := fun p => PyData.int (p.2 + d p.1.toNat i))]
      · have e : (ps.map fun p => PyData.int (p.2 + d p.1.toNat i)) = (ps.map fun p => p.2 + d p.1.toNat i).map PyData.int := by
          rw [List.map_map]
          rfl
        rw [S.ret_bind, S.ret_bind, e, oBest_min (fun z => hne (List.map_eq_nil_iff.mp z)), S.lift_some, S.ret_bind, appD_ok (by unfold fallsL; rw [List.length_map, List.length_map, List.length_range]; omega)]
        simp only [S.lift_some, S.ret_bind]
        refine ⟨_, rfl, ?_⟩
        unfold fallsL
        rw [List.range_succ, List.map_append, List.map_append]
        rfl
      · intro p hpm
        obtain ⟨p0, p1⟩ := hp p hpm
        have e3 : oIx (.list (arr n (d p.1.toNat))) (mkD i) = some (.int (d p.1.toNat i)) := oIx_arr hi
        simp only [oIx_row0, oIx_row1, S.lift_some, S.ret_bind, oIx_matI p0 p1, e3, oAdd_i, S.noEx_ret]
    · rw [List.getElem?_eq_none (by simpa using hi)] at hx
      cases hx
  · rw [hs, List.length_map, List.length_range, oTuple_l, S.lift_some]
    rfl
/-! ### the law's own look -/
theorem T_isNumber (d : PyData) (lo hi : Int) : T__law_is_number d (.int lo) (.int hi) = S.ret (.bool (numB d lo hi)) := by
  unfold T__law_is_number
  simp only [S.ret_bind, isi_int, isi_bool, toB_b, S.lift_some]
  rcases int_or d with ⟨i, rfl⟩ | hn
  · simp only [isIntB, isBoolB, dAnd, if_true, Bool.not_false, toB_b, S.lift_some, S.ret_bind, cLe_i, asB2_b, vAnd, numB]
    by_cases h : lo ≤ i
    · simp only [decide_eq_true h, if_true, Bool.true_and]
    · simp only [decide_eq_false h, Bool.false_eq_true, if_false, Bool.false_and]
  · rw [numB_not hn]
    rcases hn with hn | hn
    · simp only [hn, dAnd, Bool.false_eq_true, if_false]
    · cases hi' : isIntB d with
      | false => simp only [dAnd, Bool.false_eq_true, if_false]
      | true => simp only [hn, dAnd, if_true, Bool.not_true, toB_b, S.lift_some, S.ret_bind, Bool.false_eq_true, if_false]
theorem find_some {α : Type} (p : α → Bool) (mk : α → PyData) (xs : List α) : xs.findSome? (fun x => if p x = true then (none : Option PyData) else some (mk x)) = (xs.find? fun x => !p x).map mk := by
  induction xs with
  | nil => rfl
  | cons x xs ih =>
    rw [List.findSome?_cons, List.find?_cons]
    cases h : p x with
    | true => simpa using ih
    | false => simp
theorem T_due {rows : List (Int × Int)} (g : TreeG rows) (v : PyData) : T__law_due (matD (rows.length + 1) (dist rows)) v = S.ret (outD rows v) := by
  have hg := g.len
  unfold T__law_due
  cases v with
  | tuple ds =>
    simp only [S.ret_bind, isi_tup, isTup, toB_b, S.lift_some, bOr, Bool.not_true, Bool.false_eq_true, if_false, oLen_t, cLt_i, cGt_i, seqD_t, Option.map_some, outD]
    by_cases h1 : 1 ≤ ds.length
    · by_cases h2 : ds.length ≤ 20
      · rw [decide_eq_false (show ¬ ((ds.length : Nat) : Int) < 1 by omega), decide_eq_false (show ¬ (20 : Int) < ((ds.length : Nat) : Int) by omega), decide_eq_true h1, decide_eq_true h2]
        simp only [Bool.false_eq_true, if_false, S.ret_bind, Bool.and_self, if_true]
        have en := enu_list id PyData.none ds
        rw [List.map_id] at en
        rw [en, foldF_find' (enc := fun k => PyData.tuple [mkD k, id ((ds[k]?).getD PyData.none)]) (fun k => if pshB rows.length ((ds[k]?).getD .none) = true then none else some (badD (mkD k))) fun k hk => ?_]
        · rw [S.ret_bind, find_some]
          show flR (flO (Option.map (fun k => badD (mkD k)) (firstBad rows.length ds))) _ = _
          cases hf : firstBad rows.length ds with
          | some k => rfl
          | none =>
            have ha := psh_all hf
            have hb : psB rows.length (.tuple ds) = true := by
              show (decide (1 ≤ ds.length) && decide (ds.length ≤ 20) && ds.all (pshB rows.length)) = true
              rw [decide_eq_true h1, decide_eq_true h2, ha]
              rfl
            obtain ⟨e, hne, hl, hp⟩ := psB_yes hb
            have ei : itemsD (.tuple ds) = ds := rfl
            rw [ei] at e hne hl hp
            have hp' : ∀ p ∈ ds.map pOf, 0 ≤ p.1 ∧ p.1 < ((rows.length + 1 : Nat) : Int) := fun p h => ⟨(hp p h).1.1, by have := (hp p h).1.2; omega⟩
            have e5 : T__law_falls (matD (rows.length + 1) (dist rows)) (.tuple ds) = S.ret (tabD (fallsR rows (ds.map pOf))) := by
              rw [e]
              have := T_fallsT (n := rows.length + 1) (by omega) (d := dist rows) hne (by omega) hp'
              rw [fallsL_R g.ok hp'] at this
              exact this
            simp only [Option.map_none, flO, flR, u2, e5]
        · obtain ⟨x, ex⟩ : ∃ x, x = (ds[k]?).getD PyData.none := ⟨_, rfl⟩
          have es : oSub (.int ((rows.length + 1 : Nat) : Int)) (.int 1) = some (.int (rows.length : Nat)) := by
            show some (PyData.int (((rows.length + 1 : Nat) : Int) - 1)) = _
            congr 2
            omega
          simp only [un2_t, S.lift_some, S.ret_bind, id, isi_tup, oLen_mat, es, p109, ← ex]
          cases x with
          | tuple xs =>
            simp only [isTup, toB_b, S.lift_some, S.ret_bind, bOr, Bool.not_true, Bool.false_eq_true, if_false, oLen_t, cNe_i]
            match xs with
            | [] => rfl
            | [a] => rfl
            | [a, b] =>
              have i0 : oIx (.tuple [a, b]) (.int 0) = some a := rfl
              have i1 : oIx (.tuple [a, b]) (.int 1) = some b := rfl
              simp only [List.length_cons, List.length_nil, i0, i1, S.lift_some, S.ret_bind, u3, T_isNumber, toB_b]
              rw [show (!decide (((0 + 1 + 1 : Nat) : Int) = 2)) = false from rfl]
              simp only [Bool.false_eq_true, if_false, pshB]
              rcases Bool.eq_false_or_eq_true (numB a 0 (rows.length : Nat)) with q1 | q1 <;> rcases Bool.eq_false_or_eq_true (numB b 0 1000000000) with q2 | q2 <;> simp only [q1, q2, S.ret_bind, Bool.not_true, Bool.not_false, if_true, if_false, Bool.false_eq_true, Bool.and_self, Bool.and_false, Bool.false_and, flO] <;> rfl
            | a :: b :: c :: r =>
              have n2 : (!decide (((a :: b :: c :: r).length : Int) = 2)) = true := by
                rw [decide_eq_false]
                · rfl
                · simp only [List.length_cons]
                  omega
              simp only [n2, if_true, S.ret_bind]
              rfl
          | _ => simp only [isTup, toB_b, S.lift_some, S.ret_bind, bOr, Bool.not_false, if_true] <;> rfl
      · rw [decide_eq_false (show ¬ ((ds.length : Nat) : Int) < 1 by omega), decide_eq_true (show (20 : Int) < ((ds.length : Nat) : Int) by omega), decide_eq_false h2]
        simp only [Bool.false_eq_true, if_false, S.ret_bind, Bool.and_false, if_true]
        rfl
    · rw [decide_eq_true (show ((ds.length : Nat) : Int) < 1 by omega), decide_eq_false h1]
      simp only [Bool.false_eq_true, if_false, if_true, S.ret_bind, Bool.false_and]
      rfl
  | _ => simp only [S.ret_bind, isi_tup, isTup, toB_b, S.lift_some, bOr, Bool.not_false, if_true] <;> rfl
end Pf

set_option maxHeartbeats 1000000
namespace Pf
open PySem PySem.Spec PyProof.Rows L2
def oddA4 : List PyData := [.none, .bool true, .bool false, .int (-1), .int 0, .int 1, .int 11, .int (10 ^ 39), .str "", .str "0", .tuple [], .list [], .dict [], .tuple [.int 0], .list [.int 0], .tuple [.bool true], .tuple [.int 0, .int 0], .tuple [.int 0, .int 1]]
def oddB4 : List PyData := [.tuple [.tuple [.int 0, .int 0]], .tuple [.tuple [.int 0, .int 1]], .list [.tuple [.int 0, .int 1]], .tuple [.int 0, .bool true], .dict [(.str "a", .int 0)], .tuple [.tuple [.int 0, .int 1000000001]]]
def oddL4 : List PyData := oddA4 ++ oddB4
theorem p1039 : oPow (.int 10) (.int 39) = some (.int (10 ^ 39)) := oPow_k (by decide)
theorem p1091 : oAdd (.int 1000000000) (.int 1) = some (.int 1000000001) := rfl
theorem odd4_add : oAdd (.list oddA4) (.list oddB4) = some (.list oddL4) := oAdd_ll (by decide)
theorem odd4_gd : ∀ d ∈ oddL4, Gd d 200 3 := by
  have h : oddL4.all (fun d => gdB d 200 3) = true := by decide +kernel
  exact fun d hd => Gd.of (List.all_eq_true.mp h d hd)
theorem T_odd4 : T__law_odd = (T__law_draw (.int 24)).bind fun x => S.lift (oIx (.list oddL4) x) := by
  unfold T__law_odd
  simp only [S.ret_bind, u1, oNeg1, p1039, p109, p1091, S.lift_some]
  refine (S.bind_eq (a := PyData.list oddL4) ?_ ?_)
  · exact (congrArg S.lift odd4_add).trans (S.lift_some _)
  · rfl
theorem can_odd4 : Can 1 T__law_odd fun d => Gd d 200 3 := by
  rw [T_odd4]
  refine Can.up (n := 1 + 0) ?_ (by decide)
  refine (can_drawA (by decide) (by decide)).bind fun d ⟨r, hd, r0, r1⟩ => ?_
  subst hd
  exact can_pick r0 (by show r < ((24 : Nat) : Int); omega) odd4_gd
theorem cutL_mem {xs : List PyData} {lo hi : Option Int} {x : PyData} (h : x ∈ cutL xs lo hi) : x ∈ xs := by
  unfold cutL at h
  exact List.mem_of_mem_drop (List.mem_of_mem_take h)
theorem cutL_len (xs : List PyData) (lo hi : Option Int) : (cutL xs lo hi).length ≤ xs.length := by
  unfold cutL
  rw [List.length_take, List.length_drop]
  omega
theorem oSl_tt (ds : List PyData) (lo hi : Option Int) : oSl (.tuple ds) lo hi = some (.tuple (cutL ds lo hi)) := rfl
theorem falls_range {rows ps : List (Int × Int)} (g : TreeG rows) (hne : ps ≠ []) {top : Int} (h : ∀ p ∈ ps, (0 ≤ p.1 ∧ p.1 < (rows.length : Int) + 1) ∧ 0 ≤ p.2 ∧ p.2 < top) : ∀ t ∈ fallsR rows ps, 0 ≤ t ∧ t ≤ top + 100000000 := fun t ht => by
  have hl := g.len
  obtain ⟨k, hk, rfl⟩ := List.mem_map.mp ht
  have hk := List.mem_range.mp hk
  obtain ⟨z1, _⟩ := minL_spec (xs := ps.map fun p => p.2 + dist rows k p.1.toNat) fun z => hne (List.map_eq_nil_iff.mp z)
  obtain ⟨p, hp, ep⟩ := List.mem_map.mp z1
  obtain ⟨⟨p0, p1⟩, p2, p3⟩ := h p hp
  have hb := dist_bound g.ok _ k p.1.toNat (Nat.lt_succ_self _) (by omega) (by omega)
  show 0 ≤ minL (ps.map fun p => p.2 + dist rows k p.1.toNat) ∧ minL (ps.map fun p => p.2 + dist rows k p.1.toNat) ≤ _
  omega
theorem gd_i {i : Int} (h : -1000000000000 ≤ i ∧ i ≤ 1000000000000) : Gd (.int i) 200 3 := (Gd.int h).up (by decide) (by decide)
theorem gd_row {p : Int × Int} (h : (-1000000000000 ≤ p.1 ∧ p.1 ≤ 1000000000000) ∧ -1000000000000 ≤ p.2 ∧ p.2 ≤ 1000000000000) : Gd (rowD p) 200 3 := (Gd.tup (n := 44) (k := 0) (m := 2) (fun d hd => by
  rcases List.mem_cons.mp hd with rfl | hd
  · exact Gd.int h.1
  · rw [List.mem_singleton.mp hd]
    exact Gd.int h.2) (Nat.le_refl _)).up (by decide) (by decide)
theorem gd_out {rows : List (Int × Int)} (g : TreeG rows) (v : PyData) : Gd (outD rows v) 1000 4 := by
  have b0 : Gd (badD .none) 1000 4 := Gd.of (by decide +kernel)
  have bk : ∀ k : Nat, k ≤ 100 → Gd (badD (mkD k)) 1000 4 := fun k hk => (Gd.lst (n := 200) (k := 0) (m := 2) (fun d hd => by
    rcases List.mem_cons.mp hd with rfl | hd
    · exact Gd.of (by decide +kernel)
    · rw [List.mem_singleton.mp hd]
      exact (Gd.int (by omega)).up (by decide) (by decide)) (Nat.le_refl _)).up (by decide) (by decide)
  cases v with
  | tuple ds =>
    by_cases h1 : 1 ≤ ds.length
    · by_cases h2 : ds.length ≤ 20
      · cases hf : firstBad rows.length ds with
        | some k =>
          have hk : k < ds.length := by
            have := List.mem_of_find?_eq_some hf
            exact List.mem_range.mp this
          have e2 : outD rows (.tuple ds) = badD (mkD k) := by
            simp only [outD, decide_eq_true h1, decide_eq_true h2, Bool.and_self, if_true, hf]
          rw [e2]
          exact bk k (by omega)
        | none =>
          have ha := psh_all hf
          have hb : psB rows.length (.tuple ds) = true := by
            show (decide (1 ≤ ds.length) && decide (ds.length ≤ 20) && ds.all (pshB rows.length)) = true
            rw [decide_eq_true h1, decide_eq_true h2, ha]
            rfl
          obtain ⟨e, hne, hl, hp⟩ := psB_yes hb
          have ei : itemsD (.tuple ds) = ds := rfl
          rw [ei] at hne hp
          have e2 : outD rows (.tuple ds) = tabD (fallsR rows (ds.map pOf)) := by
            simp only [outD, decide_eq_true h1, decide_eq_true h2, Bool.and_self, if_true, hf]
          have fr := falls_range g hne (top := 1000000001) fun p h => ⟨⟨(hp p h).1.1, by have := (hp p h).1.2; omega⟩, (hp p h).2.1, by have := (hp p h).2.2; omega⟩
          have hg := g.len
          rw [e2]
          refine (Gd.tup (n := 44) (k := 0) (m := 12) (fun d hd => ?_) (by rw [List.length_map, fallsR_len]; omega)).up (by decide) (by decide)
          obtain ⟨t, ht, rfl⟩ := List.mem_map.mp hd
          have := fr t ht
          exact Gd.int (by omega)
      · have e2 : outD rows (.tuple ds) = badD .none := by
          simp only [outD, decide_eq_false h2, Bool.and_false, Bool.false_eq_true, if_false]
        rw [e2]
        exact b0
    · have e2 : outD rows (.tuple ds) = badD .none := by
        simp only [outD, decide_eq_false h1, Bool.false_and, Bool.false_eq_true, if_false]
      rw [e2]
      exact b0
  | _ => exact b0
end Pf

set_option maxHeartbeats 1000000
namespace Pf
open PySem PySem.Spec PyProof.Rows L2
theorem neg1' : oNeg (.int 1) = some (.int (-1)) := rfl
theorem oMul_l3 (x : PyData) : oMul (.list [x]) (.int 3) = some (.list [x, x, x]) := rfl
theorem oSl_ll (ds : List PyData) (lo hi : Option Int) : oSl (.list ds) lo hi = some (.list (cutL ds lo hi)) := rfl
theorem oMax_i (i j : Int) : oMax2 (.int i) (.int j) = some (.int (max i j)) := by
  show some (PyData.int (if j > i then j else i)) = _
  by_cases h : j > i
  · rw [if_pos h, Int.max_eq_right (by omega)]
  · rw [if_neg h, Int.max_eq_left (by omega)]
theorem can_changed {rows : List (Int × Int)} (g : TreeG rows) {ps : List (Int × Int)} (hne : ps ≠ []) (hl : ps.length ≤ 20) (hp : ∀ p ∈ ps, (0 ≤ p.1 ∧ p.1 < (rows.length : Int) + 1) ∧ 0 ≤ p.2 ∧ p.2 < 1000000001) : Can 20 (T__law_changed (treeD rows) (pushesD ps)) fun d => Gd d 60000 6 := by
  have hg := g.len
  have l1 : 1 ≤ ps.length := by
    cases ps with
    | nil => exact absurd rfl hne
    | cons _ _ => exact Nat.succ_le_succ (Nat.zero_le _)
  have e0 : oLen (pushesD ps) = some (.int (ps.length : Nat)) := by
    unfold pushesD
    rw [oLen_t, List.length_map]
  obtain ⟨ds, eds⟩ : ∃ ds, ds = ps.map rowD := ⟨_, rfl⟩
  have et : pushesD ps = .tuple ds := congrArg PyData.tuple eds.symm
  have ld : ds.length = ps.length := by rw [eds, List.length_map]
  have gE : ∀ e ∈ ds, Gd e 1100 4 := fun e he => by
    rw [eds] at he
    obtain ⟨p, hpm, rfl⟩ := List.mem_map.mp he
    have := hp p hpm
    exact (gd_row (p := p) (by omega)).up (by decide) (by decide)
  have a0 : oAdd (.tuple ds) (.tuple [.tuple [.int 0, .int 1000000000]]) = some (.tuple ((ps ++ [((0 : Int), (1000000000 : Int))]).map rowD)) := by
    rw [oAdd_tt (by show _ + 1 ≤ _; omega), eds, List.map_append]
    rfl
  unfold T__law_changed
  rw [et] at e0 ⊢
  simp only [S.ret_bind, u1, u0, e0, S.lift_some, S.bind_assoc, oAdd_i, p109]
  refine Can.up (n := 1 + (1 + (1 + (1 + (0 + (1 + (0 + (1 + 0)))))))) ?_ (by decide)
  refine (can_drawA (L := ((ps.length : Nat) : Int) + 1) (by omega) (by omega)).bind fun d ⟨r, hd, r0, r1⟩ => ?_
  subst hd
  refine (can_drawA (by decide) (by decide)).bind fun d ⟨j, hd, j0, j1⟩ => ?_
  subst hd
  refine can_odd4.bind fun o ho => ?_
  obtain ⟨k, rfl⟩ : ∃ k : Nat, r = (k : Int) := ⟨r.toNat, by omega⟩
  obtain ⟨p, hpm, ep⟩ : ∃ p, p ∈ ps ++ [((0 : Int), (1000000000 : Int))] ∧ (ps ++ [((0 : Int), (1000000000 : Int))])[k]? = some p := by
    have hk : k < (ps ++ [((0 : Int), (1000000000 : Int))]).length := by rw [List.length_append]; show k < ps.length + 1; omega
    exact ⟨_, List.getElem_mem hk, List.getElem?_eq_getElem hk⟩
  have hpb : (0 ≤ p.1 ∧ p.1 ≤ 12) ∧ 0 ≤ p.2 ∧ p.2 ≤ 1000000000 := by
    rcases List.mem_append.mp hpm with h | h
    · have := hp p h
      omega
    · rw [List.mem_singleton.mp h]
      decide
  have ip : oIx (.tuple ((ps ++ [((0 : Int), (1000000000 : Int))]).map rowD)) (.int (k : Int)) = some (rowD p) := oIx_t (f := rowD) ep
  simp only [S.ret_bind, a0, ip, S.lift_some, oLen_tree, oAdd_i, neg1', oSub_i]
  -- j is 0 or 1
  have gp1 : Gd (.int p.1) 200 3 := gd_i (by omega)
  have gp2 : Gd (.int p.2) 200 3 := gd_i (by omega)
  obtain ⟨y, ey, gy⟩ : ∃ y, oIx (rowD p) (.int (1 - j)) = some y ∧ Gd y 200 3 := by
    rcases (show j = 0 ∨ j = 1 by omega) with rfl | rfl
    · exact ⟨.int p.2, rfl, gp2⟩
    · exact ⟨.int p.1, rfl, gp1⟩
  obtain ⟨z, ez, gz⟩ : ∃ z, oIx (.list [PyData.int ((rows.length : Nat) + 1), .int (1000000000 + 1)]) (.int j) = some z ∧ Gd z 200 3 := by
    rcases (show j = 0 ∨ j = 1 by omega) with rfl | rfl
    · exact ⟨.int ((rows.length : Nat) + 1), rfl, gd_i (by omega)⟩
    · exact ⟨.int (1000000000 + 1), rfl, gd_i (by decide)⟩
  simp only [ey, ez, S.lift_some, S.ret_bind]
  refine (can_drawA (by decide) (by decide)).bind fun d ⟨w, hd, w0, w1⟩ => ?_
  subst hd
  refine Can.bind (n := 0) (P := fun d => Gd d 200 3) ?_ fun part hpart => ?_
  · refine can_pick w0 (show w < ((4 : Nat) : Int) by omega) fun x hx => ?_
    simp only [List.mem_cons, List.not_mem_nil, or_false] at hx
    rcases hx with rfl | rfl | rfl | rfl
    · exact ho
    · exact gz
    · exact gd_i (by decide)
    · exact gy
  have er : rowD p = .tuple [.int p.1, .int p.2] := rfl
  have gR : ∀ e ∈ [PyData.int p.1, .int p.2], Gd e 200 3 := fun e he => by
    rcases List.mem_cons.mp he with rfl | he
    · exact gp1
    · rw [List.mem_singleton.mp he]
      exact gp2
  have gC : ∀ lo hi, ∀ e ∈ cutL [PyData.int p.1, .int p.2] lo hi, Gd e 200 3 := fun lo hi e he => gR e (cutL_mem he)
  have lC : ∀ lo hi, (cutL [PyData.int p.1, .int p.2] lo hi).length ≤ 2 := fun lo hi => cutL_len _ lo hi
  have c1 := lC none (some j)
  have c2 := lC (some (j + 1)) none
  have b1 : oAdd (.tuple (cutL [PyData.int p.1, .int p.2] none (some j))) (.tuple [part]) = some (.tuple (cutL [PyData.int p.1, .int p.2] none (some j) ++ [part])) := oAdd_tt (by show _ + 1 ≤ _; omega)
  have b2 : oAdd (.tuple (cutL [PyData.int p.1, .int p.2] none (some j) ++ [part])) (.tuple (cutL [PyData.int p.1, .int p.2] (some (j + 1)) none)) = some (.tuple (cutL [PyData.int p.1, .int p.2] none (some j) ++ [part] ++ cutL [PyData.int p.1, .int p.2] (some (j + 1)) none)) := oAdd_tt (by rw [List.length_append]; show _ + 1 + _ ≤ _; omega)
  have b3 : oAdd (.tuple [PyData.int p.1, .int p.2]) (.tuple [.int 0]) = some (.tuple ([PyData.int p.1, .int p.2] ++ [.int 0])) := oAdd_tt (by show 2 + 1 ≤ _; decide)
  have small : ∀ {xs : List PyData}, (∀ e ∈ xs, Gd e 200 3) → xs.length ≤ 5 → Gd (.tuple xs) 1100 4 := fun h hl => (Gd.tup h hl).up (by decide) (Nat.le_refl _)
  simp only [er, toI, Option.map_some, S.lift_some, S.ret_bind, oSl_tt, b1, b2, b3, oRev_tt, oList_tt, oSl_ll]
  obtain ⟨n0, en0⟩ : ∃ n0, n0 = PyData.tuple (cutL [PyData.int p.1, .int p.2] none (some j) ++ [part] ++ cutL [PyData.int p.1, .int p.2] (some (j + 1)) none) := ⟨_, rfl⟩
  have g0 : Gd n0 1100 4 := en0 ▸ (small (fun e he => by
    rcases List.mem_append.mp he with he | he
    · rcases List.mem_append.mp he with he | he
      · exact gC _ _ e he
      · rw [List.mem_singleton.mp he]
        exact hpart
    · exact gC _ _ e he) (by rw [List.length_append, List.length_append]; show _ + 1 + _ ≤ _; omega))
  rw [← en0]
  have cb : ∀ (x1 x2 x3 x4 x5 : PyData), cutL [n0, x1, x2, x3, x4, x5] none (some 1) = [n0] := fun _ _ _ _ _ => rfl
  simp only [cb, oMul_l3, S.lift_some, S.ret_bind]
  rw [oAdd_ll (by show 3 + 6 ≤ 1000000; decide), S.lift_some, S.ret_bind]
  refine (can_drawA (by decide) (by decide)).bind fun d ⟨q, hd, q0, q1⟩ => ?_
  subst hd
  refine Can.bind (n := 0) (P := fun d => Gd d 1100 4) ?_ fun v hv => ?_
  · refine can_pick q0 (show q < ((9 : Nat) : Int) by omega) fun x hx => ?_
    simp only [List.mem_append, List.mem_cons, List.not_mem_nil, or_false] at hx
    have y1 : Gd (.tuple ([PyData.int p.1, .int p.2]).reverse) 1100 4 := small (fun e he => gR e (List.mem_reverse.mp he)) (by rw [List.length_reverse]; show 2 ≤ 5; decide)
    have y2 : Gd (.list [PyData.int p.1, .int p.2]) 1100 4 := (Gd.lst gR (show 2 ≤ 5 by decide)).up (by decide) (Nat.le_refl _)
    have y3 : Gd (.tuple (cutL [PyData.int p.1, .int p.2] none (some 1))) 1100 4 := small (gC _ _) (Nat.le_trans (lC _ _) (by decide))
    have y4 : Gd (.tuple ([PyData.int p.1, .int p.2] ++ [.int 0])) 1100 4 := small (fun e he => by
      rcases List.mem_append.mp he with he | he
      · exact gR e he
      · rw [List.mem_singleton.mp he]
        exact gd_i (by decide)) (by show 2 + 1 ≤ 5; decide)
    have y5 : Gd o 1100 4 := ho.up (by decide) (by decide)
    rcases hx with (rfl | rfl | rfl) | rfl | rfl | rfl | rfl | rfl | rfl
    all_goals first | exact g0 | exact y1 | exact y2 | exact y3 | exact y4 | exact y5
  -- the values
  have lc := fun lo hi => cutL_len ds lo hi
  have gc : ∀ lo hi, ∀ e ∈ cutL ds lo hi, Gd e 1100 4 := fun lo hi e he => gE e (cutL_mem he)
  have h1 := lc none (some (k : Int))
  have h2 := lc (some ((k : Int) + 1)) none
  have h3 := lc (some (k : Int)) none
  have h4 := lc none (some 1)
  have mt : oMulT (.tuple ds) (.int 21) = some (.tuple (List.replicate 21 ds).flatten) := if_pos ⟨by omega, by decide, by decide, by omega⟩
  have a1 : oAdd (.tuple (cutL ds none (some (k : Int)))) (.tuple [v]) = some (.tuple (cutL ds none (some (k : Int)) ++ [v])) := oAdd_tt (by show _ + 1 ≤ _; omega)
  have a2 : oAdd (.tuple (cutL ds none (some (k : Int)) ++ [v])) (.tuple (cutL ds (some ((k : Int) + 1)) none)) = some (.tuple (cutL ds none (some (k : Int)) ++ [v] ++ cutL ds (some ((k : Int) + 1)) none)) := oAdd_tt (by rw [List.length_append]; show _ + 1 + _ ≤ _; omega)
  have a3 : oAdd (.tuple (cutL ds none (some (k : Int)))) (.tuple (cutL ds (some ((k : Int) + 1)) none)) = some (.tuple (cutL ds none (some (k : Int)) ++ cutL ds (some ((k : Int) + 1)) none)) := oAdd_tt (by omega)
  have a5 : oAdd (.tuple (cutL ds none (some (k : Int)) ++ [v])) (.tuple (cutL ds (some (k : Int)) none)) = some (.tuple (cutL ds none (some (k : Int)) ++ [v] ++ cutL ds (some (k : Int)) none)) := oAdd_tt (by rw [List.length_append]; show _ + 1 + _ ≤ _; omega)
  have a6 : oAdd (.tuple ds) (.tuple (cutL ds none (some 1))) = some (.tuple (ds ++ cutL ds none (some 1))) := oAdd_tt (by omega)
  simp only [toI, Option.map_some, S.lift_some, S.ret_bind, oSl_tt, a1, a2, a3, a5, a6, mt, oList_tt, oRev_tt]
  rw [oAdd_ll (by show 5 + 5 ≤ 1000000; decide), S.lift_some, S.ret_bind]
  refine (can_drawA (by decide) (by decide)).bind fun d ⟨zz, hd, z0, z1⟩ => ?_
  subst hd
  simp only [oSub_i, oMax_i, S.lift_some, S.ret_bind]
  refine can_pick (by omega) (show max 0 (zz - 3) < ((10 : Nat) : Int) by omega) fun x hx => ?_
  have big : ∀ {xs : List PyData}, (∀ e ∈ xs, Gd e 1100 4) → xs.length ≤ 50 → Gd (.tuple xs) 60000 6 := fun h hl => (Gd.tup h hl).up (by decide) (by decide)
  have gM : ∀ e ∈ (List.replicate 21 ds).flatten, Gd e 1100 4 := fun e he => by
    obtain ⟨l, hl, he⟩ := List.mem_flatten.mp he
    rw [(List.mem_replicate.mp hl).2] at he
    exact gE e he
  have y1 : Gd (.tuple (cutL ds none (some (k : Int)) ++ [v] ++ cutL ds (some ((k : Int) + 1)) none)) 60000 6 := big (fun e he => by
    rcases List.mem_append.mp he with he | he
    · rcases List.mem_append.mp he with he | he
      · exact gc _ _ e he
      · rw [List.mem_singleton.mp he]
        exact hv
    · exact gc _ _ e he) (by rw [List.length_append, List.length_append]; show _ + 1 + _ ≤ _; omega)
  have y2 : Gd (.tuple (cutL ds none (some (k : Int)) ++ [v] ++ cutL ds (some (k : Int)) none)) 60000 6 := big (fun e he => by
    rcases List.mem_append.mp he with he | he
    · rcases List.mem_append.mp he with he | he
      · exact gc _ _ e he
      · rw [List.mem_singleton.mp he]
        exact hv
    · exact gc _ _ e he) (by rw [List.length_append, List.length_append]; show _ + 1 + _ ≤ _; omega)
  have y3 : Gd (.tuple (cutL ds none (some (k : Int)) ++ cutL ds (some ((k : Int) + 1)) none)) 60000 6 := big (fun e he => by
    rcases List.mem_append.mp he with he | he
    · exact gc _ _ e he
    · exact gc _ _ e he) (by rw [List.length_append]; omega)
  have y4 : Gd (.tuple ds.reverse) 60000 6 := big (fun e he => gE e (List.mem_reverse.mp he)) (by rw [List.length_reverse]; omega)
  have y5 : Gd (.tuple (ds ++ cutL ds none (some 1))) 60000 6 := big (fun e he => by
    rcases List.mem_append.mp he with he | he
    · exact gE e he
    · exact gc _ _ e he) (by rw [List.length_append]; omega)
  have y6 : Gd (.list ds) 60000 6 := (Gd.lst gE (show ds.length ≤ 50 by omega)).up (by decide) (by decide)
  have y7 : Gd (.tuple [.tuple ds]) 60000 6 := (Gd.tup (m := 1) (fun e he => by
    rw [List.mem_singleton.mp he]
    exact Gd.tup gE (show ds.length ≤ 20 by omega)) (Nat.le_refl _)).up (by decide) (by decide)
  have y8 : Gd o 60000 6 := ho.up (by decide) (by decide)
  have cut20 : ∀ c : Nat, c ≤ 21 → (cutL (List.replicate 21 ds).flatten none (some (c : Int))).length ≤ 50 := fun c c1 => by
    rw [cut_to, List.length_take]
    omega
  have y9 : Gd (.tuple (cutL (List.replicate 21 ds).flatten none (some 20))) 60000 6 := big (fun e he => gM e (cutL_mem he)) (cut20 20 (by decide))
  have y10 : Gd (.tuple (cutL (List.replicate 21 ds).flatten none (some 21))) 60000 6 := big (fun e he => gM e (cutL_mem he)) (cut20 21 (by decide))
  simp only [List.mem_append, List.mem_cons, List.not_mem_nil, or_false] at hx
  rcases hx with (rfl | rfl | rfl | rfl | rfl) | rfl | rfl | rfl | rfl | rfl
  all_goals assumption
end Pf

set_option maxHeartbeats 1000000
namespace Pf
open PySem PySem.Spec PyProof.Rows L2
def twI (i : Int) : PyData := if i < 2 then .bool (decide (i = 1)) else .int i
def twD (p : Int × Int) : PyData := .tuple [twI p.1, twI p.2]
theorem T_twin {ps : List (Int × Int)} (hl : ps.length ≤ 20) : T__law_twin (pushesD ps) = S.ret (.tuple (ps.map twD)) := by
  unfold T__law_twin
  have e1 : seqD (pushesD ps) = some (ps.map rowD) := rfl
  simp only [S.ret_bind, e1, S.lift_some]
  rw [szD_ok (by rw [List.length_map]; omega), S.lift_some, S.ret_bind, S.mapM_map, S.mapM_ret (g := twD)]
  · rw [S.ret_bind, S.ret_bind, oTuple_l, S.lift_some]
  · intro p _
    have e2 : seqD (rowD p) = some ([p.1, p.2].map PyData.int) := rfl
    rw [e2, S.lift_some, S.ret_bind, szD_ok (by show 2 ≤ 1000000; decide), S.lift_some, S.ret_bind, S.mapM_map, S.mapM_ret (g := twI)]
    · rw [S.ret_bind, S.ret_bind, oTuple_l, S.lift_some, S.noEx_ret]
      rfl
    · intro i _
      simp only [cEq_i, cLt_i, asB2_b, S.lift_some, S.ret_bind]
      unfold twI
      by_cases h : i < 2
      · rw [decide_eq_true h, if_pos h]
        rfl
      · rw [decide_eq_false h, if_neg h]
        rfl
theorem gd_twI {i : Int} (h : -1000000000000 ≤ i ∧ i ≤ 1000000000000) : Gd (twI i) 200 3 := by
  unfold twI
  split
  · exact (Gd.bool _).up (by decide) (by decide)
  · exact gd_i h
theorem gd_twD {p : Int × Int} (h : (-1000000000000 ≤ p.1 ∧ p.1 ≤ 1000000000000) ∧ -1000000000000 ≤ p.2 ∧ p.2 ≤ 1000000000000) : Gd (twD p) 1100 4 := (Gd.tup (n := 200) (k := 3) (m := 2) (fun d hd => by
  rcases List.mem_cons.mp hd with rfl | hd
  · exact gd_twI h.1
  · rw [List.mem_singleton.mp hd]
    exact gd_twI h.2) (Nat.le_refl _)).up (by decide) (by decide)
def fallD (rows : List (Int × Int)) (ts : List Int) : PyData := obD "Falls" [(.str "_tree", treeD rows), (.str "_table", tabD ts)]
theorem tAt_zero {n k : Nat} : tAt (List.replicate n 0) k = 0 := by
  unfold tAt
  rw [List.getElem?_replicate]
  split <;> rfl
theorem T_fallsZ {rows : List (Int × Int)} (g : TreeG rows) : T_Falls_init (treeD rows) (tabD (List.replicate (rows.length + 1) 0)) = S.ret (fallD rows (List.replicate (rows.length + 1) 0)) := by
  have e : tabB rows (List.replicate (rows.length + 1) 0) = true := by
    unfold tabB
    rw [Bool.and_eq_true, List.all_eq_true, List.all_eq_true]
    refine ⟨fun t ht => ?_, fun k hk => ?_⟩
    · rw [(List.mem_replicate.mp ht).2]
      rfl
    · have hk := List.mem_range.mp hk
      obtain ⟨r, hr, rp, rl, hp, l1, l2⟩ := row_of g.ok (show 0 < k + 1 by omega) (show k + 1 ≤ rows.length by omega)
      unfold rowB
      rw [tAt_zero, tAt_zero]
      exact decide_eq_true (by rw [← rl]; show (0 : Int) ≤ r.2; omega)
  unfold T_Falls_init
  simp only [S.ret_bind, u1, u2, T_treeErr g.ok g.len, T_table g (ts := List.replicate (rows.length + 1) 0) (by rw [List.length_replicate]), e, (show cIs true .none .none = some false from rfl), toB_b, S.lift_some, Bool.false_eq_true, if_false, Bool.not_true]
  rfl
theorem T_sameG {d : PyData} {n k : Nat} (h : Gd d n k) (hk : k ≤ 60) (hn : n ≤ 1000000) : T__law_same d d = S.ret (.bool true) := by
  unfold T__law_same
  simp only [S.ret_bind, okReprG h hk hn, S.lift_some, cEq_s, asB2_b]
theorem oMulT_rep (x : PyData) {n : Nat} (h0 : 1 ≤ n) (h1 : n ≤ 1000) : oMulT (.tuple [x]) (.int (n : Int)) = some (.tuple (List.replicate n x)) := by
  have c : 0 < [x].length ∧ 1 ≤ (n : Int) ∧ (n : Int) ≤ 1000 ∧ [x].length ≤ 1000 := ⟨by simp, by omega, by omega, by simp⟩
  refine (if_pos c).trans ?_
  have e : ((n : Int)).toNat = n := by omega
  have f : ∀ m : Nat, (List.replicate m [x]).flatten = List.replicate m x := fun m => by
    induction m with
    | zero => rfl
    | succ m ih =>
      rw [List.replicate_succ, List.flatten_cons, ih, List.replicate_succ]
      rfl
  rw [e, f]
theorem can_law : Can 20000 T_law fun d => d = .bool true := by
  unfold T_law
  simp only [S.ret_bind, u1, u2, u3, S.bind_assoc, S.bind_ret, p109, S.lift_some, p1091, rngI (show (0 : Int) ≤ 8 by decide) (by decide)]
  refine Can.up (n := 2000 * ((List.range (8 : Int).toNat).map mkD).length + 0) ?_ (by decide)
  refine (Can.foldF (fun _ (_ : PUnit) => True) 0 trivial (fun i s x _ hx => ?_)).bind fun o ho => ?_
  · obtain ⟨hi, rfl⟩ := range_at hx
    have em : oMod (mkD i) (.int 3) = some (.int ((i : Int) % 3)) := oMod_k (by decide)
    have em2 : oMod (mkD i) (.int 2) = some (.int ((i : Int) % 2)) := oMod_k (by decide)
    obtain ⟨mo, hmo, emo⟩ := oIx_mem (xs := [PyData.int 12, .int 3, .int 6]) (i := (i : Int) % 3) (by omega) (by show (i : Int) % 3 < ((3 : Nat) : Int); omega)
    obtain ⟨most, rfl, m1, m2⟩ : ∃ most : Int, mo = .int most ∧ 1 ≤ most ∧ most ≤ 12 := by
      simp only [List.mem_cons, List.not_mem_nil, or_false] at hmo
      rcases hmo with rfl | rfl | rfl
      · exact ⟨12, rfl, by decide, by decide⟩
      · exact ⟨3, rfl, by decide, by decide⟩
      · exact ⟨6, rfl, by decide, by decide⟩
    obtain ⟨mp, hmp, emp⟩ := oIx_mem (xs := [PyData.int 20, .int 4]) (i := (i : Int) % 2) (by omega) (by show (i : Int) % 2 < ((2 : Nat) : Int); omega)
    obtain ⟨mps, rfl, n1, n2⟩ : ∃ mps : Int, mp = .int mps ∧ 1 ≤ mps ∧ mps ≤ 20 := by
      simp only [List.mem_cons, List.not_mem_nil, or_false] at hmp
      rcases hmp with rfl | rfl
      · exact ⟨20, rfl, by decide, by decide⟩
      · exact ⟨4, rfl, by decide, by decide⟩
    simp only [em, em2, emo, emp, S.lift_some, S.ret_bind]
    refine Can.up (n := 40 + (1 + (50 + (20 * ((List.range (9 : Int).toNat).map mkD).length + (0 + 0))))) ?_ (by decide)
    refine (can_treeA m1 m2).bind fun d ⟨rows, hd, ok, hlen⟩ => ?_
    subst hd
    have g : TreeG rows := ⟨ok, by omega⟩
    have hg := g.len
    refine (can_drawA (by decide) (by decide)).bind fun d ⟨q, hd, q0, q1⟩ => ?_
    subst hd
    obtain ⟨la, hla, ela⟩ := oIx_mem (xs := [PyData.int 2, .int 30, .int 1000000001]) (i := q) q0 (by show q < ((3 : Nat) : Int); omega)
    obtain ⟨late, rfl, t1, t2⟩ : ∃ late : Int, la = .int late ∧ 1 ≤ late ∧ late ≤ 1000000001 := by
      simp only [List.mem_cons, List.not_mem_nil, or_false] at hla
      rcases hla with rfl | rfl | rfl
      · exact ⟨2, rfl, by decide, by decide⟩
      · exact ⟨30, rfl, by decide, by decide⟩
      · exact ⟨1000000001, rfl, by decide, by decide⟩
    simp only [ela, S.lift_some, S.ret_bind]
    refine (can_pushesA hg n1 n2 t1 t2).bind fun d ⟨ps, hd, hne, hpl, hps⟩ => ?_
    subst hd
    have hps' : ∀ p ∈ ps, (0 ≤ p.1 ∧ p.1 < (rows.length : Int) + 1) ∧ 0 ≤ p.2 ∧ p.2 < 1000000001 := fun p h => by
      have := hps p h
      omega
    have m20 : oMulT (.tuple [.tuple [.int 0, .int 0]]) (.int 20) = some (.tuple (List.replicate 20 (.tuple [.int 0, .int 0]))) := oMulT_rep _ (n := 20) (by decide) (by decide)
    have m21 : oMulT (.tuple [.tuple [.int 0, .int 0]]) (.int 21) = some (.tuple (List.replicate 21 (.tuple [.int 0, .int 0]))) := oMulT_rep _ (n := 21) (by decide) (by decide)
    simp only [T_farA g, T_twin hpl, m20, m21, S.ret_bind, S.lift_some]
    rw [oAdd_ll (by show 7 + 6 ≤ 1000000; decide), S.lift_some, S.ret_bind]
    have gP : Gd (pushesD ps) 60000 6 := (Gd.tup (n := 1100) (k := 4) (m := 20) (fun d hd => by
      obtain ⟨p, hp, rfl⟩ := List.mem_map.mp hd
      have := hps' p hp
      exact (gd_row (p := p) (by omega)).up (by decide) (by decide)) (by rw [List.length_map]; exact hpl)).up (by decide) (by decide)
    have gT : Gd (.tuple (ps.map twD)) 60000 6 := (Gd.tup (n := 1100) (k := 4) (m := 20) (fun d hd => by
      obtain ⟨p, hp, rfl⟩ := List.mem_map.mp hd
      have := hps' p hp
      exact gd_twD (p := p) (by omega)) (by rw [List.length_map]; exact hpl)).up (by decide) (by decide)
    have gTree : Gd (treeD rows) 10000 4 := (tree_fine g.ok (by omega)).gd.up (by decide) (by decide)
    obtain ⟨base, eb, hbase⟩ : ∃ base : List PyData, base = [pushesD ps, .tuple (ps.map twD), pushesD ps, .tuple [], .tuple [.tuple [.int 0, .int 0]], .tuple [.tuple [.int 0, .bool false]], .tuple [.tuple [.bool false, .int 0]]] ++ [.tuple [.tuple [.int 0, .int 1]], .tuple [.tuple [.int 0, .bool true]], .tuple [.tuple [.int 0, .int 1]], .tuple (List.replicate 20 (.tuple [.int 0, .int 0])), .tuple (List.replicate 21 (.tuple [.int 0, .int 0])), .none] ∧ base.length = 13 ∧ ∀ d ∈ base, Gd d 60000 6 := ⟨_, rfl, rfl, fun d hd => by
      have cl : ∀ d ∈ [PyData.tuple [], .tuple [.tuple [.int 0, .int 0]], .tuple [.tuple [.int 0, .bool false]], .tuple [.tuple [.bool false, .int 0]], .tuple [.tuple [.int 0, .int 1]], .tuple [.tuple [.int 0, .bool true]], .tuple (List.replicate 20 (.tuple [.int 0, .int 0])), .tuple (List.replicate 21 (.tuple [.int 0, .int 0])), .none], Gd d 60000 6 := by
        have h : ([PyData.tuple [], .tuple [.tuple [.int 0, .int 0]], .tuple [.tuple [.int 0, .bool false]], .tuple [.tuple [.bool false, .int 0]], .tuple [.tuple [.int 0, .int 1]], .tuple [.tuple [.int 0, .bool true]], .tuple (List.replicate 20 (.tuple [.int 0, .int 0])), .tuple (List.replicate 21 (.tuple [.int 0, .int 0])), .none]).all (fun d => gdB d 60000 6) = true := by decide +kernel
        exact fun d hd => Gd.of (List.all_eq_true.mp h d hd)
      simp only [List.mem_append, List.mem_cons, List.not_mem_nil, or_false] at hd
      rcases hd with (rfl | rfl | rfl | rfl | rfl | rfl | rfl) | rfl | rfl | rfl | rfl | rfl | rfl
      all_goals first | exact gP | exact gT | (refine cl _ ?_; simp)⟩
    rw [← eb]
    obtain ⟨hbl, hbg⟩ := hbase
    rw [rngI (show (0 : Int) ≤ 9 by decide) (by decide), S.lift_some, S.ret_bind, szD_ok (by decide), S.lift_some, S.ret_bind]
    refine (Can.mapM (n := 20) (P := fun _ y => Gd y 60000 6) 0 fun i x hx => Can.noEx (can_changed g hne hpl hps')).bind fun ys ⟨hyl, hys⟩ => ?_
    have hyl : ys.length = 9 := hyl
    rw [oAdd_ll (by omega), S.lift_some, S.ret_bind]
    have sq : seqD (.list (base ++ ys)) = some (base ++ ys) := rfl
    rw [sq, S.lift_some, S.ret_bind]
    refine Can.bind (n := 0) (P := isNx fun (_ : PUnit) => True) ?_ fun o ho => ?_
    · refine Can.up (n := 0 * (base ++ ys).length) ?_ (by omega)
      refine Can.foldF (n := 0) (fun _ (_ : PUnit) => True) 0 trivial (fun k u t _ ht => ?_)
      have hm := List.mem_of_getElem? ht
      have gt : Gd t 60000 6 := by
        rcases List.mem_append.mp hm with h | h
        · exact hbg t h
        · obtain ⟨j, hj, e⟩ := List.getElem_of_mem h
          exact hys j t (by rw [List.getElem?_eq_getElem hj, e])
      have gl : Gd (.list [treeD rows, t]) 130000 7 := (Gd.list (n := 60000) (k := 6) (fun d hd => by
        rcases List.mem_cons.mp hd with rfl | hd
        · exact gTree.up (by decide) (by decide)
        · rw [List.mem_singleton.mp hd]
          exact gt)).up (by show (60000 + 2) * 2 + 2 ≤ 130000; decide) (Nat.le_refl _)
      have r1 := okReprG gl (by decide) (by decide)
      have go : Gd (.list [outD rows t, outD rows t]) 3000 5 := (Gd.list (n := 1000) (k := 4) (fun d hd => by
        rcases List.mem_cons.mp hd with rfl | hd
        · exact gd_out g t
        · rw [List.mem_singleton.mp hd]
          exact gd_out g t)).up (by show (1000 + 2) * 2 + 2 ≤ 3000; decide) (Nat.le_refl _)
      simp only [r1, T_due g, T_fallsOut g, S.lift_some, S.ret_bind, rngI (show (0 : Int) ≤ 2 by decide) (by decide), S.noEx_ret]
      rw [szD_ok (by decide), S.lift_some, S.ret_bind, S.mapM_ret (g := fun _ => outD rows t) (fun _ _ => rfl), S.ret_bind]
      have e2 : (((List.range (2 : Int).toNat).map mkD).map fun _ => outD rows t) = [outD rows t, outD rows t] := rfl
      rw [e2]
      simp only [T_sameG go (by decide) (by decide), S.ret_bind, toB_b, cNe_s, S.lift_some, bOr, Bool.not_true, Bool.false_eq_true, if_false]
      exact Can.ret trivial
    · cases o with
      | nx s =>
        have en : ((rows.length : Nat) : Int) + 1 = ((rows.length + 1 : Nat) : Int) := rfl
        have rep : oMulT (.tuple [.int 0]) (.int ((rows.length + 1 : Nat) : Int)) = some (.tuple (List.replicate (rows.length + 1) (.int 0))) := oMulT_rep _ (by omega) (by omega)
        have e4 : PyData.tuple (List.replicate (rows.length + 1) (.int 0)) = tabD (List.replicate (rows.length + 1) 0) := by
          unfold tabD
          rw [List.map_replicate]
        have e3 : outD rows (fallD rows (List.replicate (rows.length + 1) 0)) = badD .none := rfl
        have gb : Gd (badD .none) 1000 4 := Gd.of (by decide +kernel)
        have gs : T__law_same (badD .none) (.list [.str "bad", .none]) = S.ret (.bool true) := T_sameG gb (by decide) (by decide)
        simp only [flF, oLen_tree, oAdd_i, en, S.lift_some, S.ret_bind, rep, e4, T_fallsZ g, T_fallsOut g, e3, gs, toB_b, Bool.not_true, Bool.false_eq_true, if_false]
        exact Can.ret trivial
      | _ => exact ho.elim
  · cases o with
    | nx s =>
      simp only [flR]
      exact Can.ret rfl
    | _ => exact ho.elim
noncomputable abbrev G__law_draw := Gdraw
noncomputable abbrev G__law_deck := GdeckN 63
noncomputable abbrev F__law_deck : List Sv → M Sv := strip 2 G__law_deck
noncomputable abbrev G_law : Rho → M Out := gSeq (gSet 1 (callF F__law_deck 1 (argC (slot 0) argN))) R_law
noncomputable abbrev F_law : List Sv → M Sv := strip 13 G_law
theorem law_true (ns : List Int) (_ : ns.length ≤ 63) : ∃ μ, F_law [.scr ns] [] = some (.ok (.dat (.bool true)) μ) := law_start (N := 13) (by decide) (fun ns => deck_madeN (m := 63) (by decide) ns) tt_law can_law (by decide) ns
end Pf

set_option maxHeartbeats 1000000
namespace Pf
open PySem PySem.Spec PyProof.Rows L2
def topS (i : Nat) : Stmt := PySem.Challenge.pw_marktopples_k03_falls_of_pushes.main.body.getD i (.Pass ⟨0, 0, 0, 0⟩)
def clsB : Stmt → List Stmt
  | .ClassDef (body := b) .. => b
  | _ => []
variable {P : Program} {w : World} {K : PySem.W.Frag} {mg : Str → Option Value} {base : Heap}
structure Top (mg : Str → Option Value) : Prop where
  m_ValueError : mg "ValueError" = none
  m_abs : mg "abs" = none
  m_all : mg "all" = none
  m_bool : mg "bool" = none
  m_enumerate : mg "enumerate" = none
  m_int : mg "int" = none
  m_isinstance : mg "isinstance" = none
  m_len : mg "len" = none
  m_list : mg "list" = none
  m_max : mg "max" = none
  m_min : mg "min" = none
  m_range : mg "range" = none
  m_repr : mg "repr" = none
  m_tuple : mg "tuple" = none
  c_LIMIT : ∃ t, mg "LIMIT" = some (.int 2000000000 t)
  c_MAX_LENGTH : ∃ t, mg "MAX_LENGTH" = some (.int 1000000 t)
  c_MAX_MARKS : ∃ t, mg "MAX_MARKS" = some (.int 12 t)
  c_MAX_PUSHES : ∃ t, mg "MAX_PUSHES" = some (.int 20 t)
  c_MAX_TICK : ∃ t, mg "MAX_TICK" = some (.int 1000000000 t)

theorem exk_BadPushes {K : PySem.W.Frag} {mg : Str → Option Value} {C f : Addr} (Z : Err_BadPushes.TL K mg C f) : ExK K C := ⟨Z.f_get, Z.f_at, Z.sub, Z.f_cls, Z.s_get, Z.tk, Z.mro, Z.dct⟩
abbrev s__law_deck : Stmt := topS 34
abbrev N__law_deck : List Str := ["_law_script", "_law_cell"]
theorem sc__law_deck : FnScope N__law_deck ["_law_script"] (defScope s__law_deck) := ⟨rfl, rfl, rfl, by decide +kernel, rfl, by decide +kernel, by decide +kernel⟩
theorem ok__law_deck (T : Top mg) {f : Addr} {fd : FuncData} (F : Fun K "_law_deck" "_law_deck" s__law_deck f fd) : Gk P w K mg base (L2.CX P w) 1 f fd ["_law_script"] (spM K 1 F__law_deck) := by
  refine gk_strip (k := 0) (l := 2) F sc__law_deck rfl rfl G__law_deck (fun cdv A below s H E hg hr => ?_)
  have nd : N__law_deck.Nodup := sc__law_deck.nd
  have hx : Passes (L2.CX P w) (bx P w K mg base N__law_deck "_law_deck" s__law_deck f cdv A below s H E) E := bx_pass
  have ho : PassesOwn (model P w) (bx P w K mg base N__law_deck "_law_deck" s__law_deck f cdv A below s H E).A (bx P w K mg base N__law_deck "_law_deck" s__law_deck f cdv A below s H E).env (bx P w K mg base N__law_deck "_law_deck" s__law_deck f cdv A below s H E).xe := bx_own
  exact (q_one (s_ret (x_lst true (a_cons (x_lc true rfl nd (own := [("_law_cell", 1)]) (i_seq (x_slice false (x_name 0) o_none (o_some x_int))) (blkOk_by (N := N__law_deck) (sc := defScope s__law_deck) (by decide +kernel)) (fun _ _ _ _ _ => (pw_nm 1 nd (by decide))) (fun _ _ _ _ _ => ts_nil) (fun _ _ _ _ _ => (x_callB b_abs rfl T.m_abs PyProof.Rows.boot_abs (a_cons (x_name 1) a_nil)))) (a_cons x_int a_nil)))))
abbrev s__law_draw : Stmt := topS 35
abbrev N__law_draw : List Str := ["_law_deck_here", "_law_limit", "_law_cell", "_law_index"]
theorem sc__law_draw : FnScope N__law_draw ["_law_deck_here", "_law_limit"] (defScope s__law_draw) := ⟨rfl, rfl, rfl, by decide +kernel, rfl, by decide +kernel, by decide +kernel⟩
theorem ok__law_draw (T : Top mg) {f : Addr} {fd : FuncData} (F : Fun K "_law_draw" "_law_draw" s__law_draw f fd) : Gk P w K mg base (L2.CX P w) 1 f fd ["_law_deck_here", "_law_limit"] (spM K 2 F__law_draw) := by
  refine gk_of (k := 0) F sc__law_draw rfl G__law_draw (fun cdv A below s H E hg hr => ?_) same_drawA
  have nd : N__law_draw.Nodup := sc__law_draw.nd
  have hx : Passes (L2.CX P w) (bx P w K mg base N__law_draw "_law_draw" s__law_draw f cdv A below s H E) E := bx_pass
  have ho : PassesOwn (model P w) (bx P w K mg base N__law_draw "_law_draw" s__law_draw f cdv A below s H E).A (bx P w K mg base N__law_draw "_law_draw" s__law_draw f cdv A below s H E).env (bx P w K mg base N__law_draw "_law_draw" s__law_draw f cdv A below s H E).xe := bx_own
  exact (q_cons (s_asg (x_bin o_add (x_ix o_ix (x_name 0) x_int) x_int) (pg_st (x_name 0) x_int (pg_sub (x_name 0) x_int set_list)))
  (q_cons (s_asg (x_tup (a_cons x_int (a_cons (x_ng x_int) a_nil))) (pg_tp 2 rfl (pgs_c (pg_nm 2 nd) (pgs_c (pg_nm 3 nd) pgs_0))))
  (q_cons (s_if (t_cmp o_gt (x_callB b_len rfl T.m_len PySem.boot_len (a_cons (x_ix o_ix (x_name 0) x_int) a_nil)) x_int)
  (q_cons (s_set 3 nd (x_bin o_mod (x_ix o_ix (x_name 0) x_int) (x_callB b_len rfl T.m_len PySem.boot_len (a_cons (x_ix o_ix (x_name 0) x_int) a_nil))))
  (q_one (s_set 2 nd (x_ix o_ix (x_ix o_ix (x_name 0) x_int) (x_name 3)))))
  q_nil)
  (q_cons (s_if (t_cmp o_ge (x_name 2) (x_bin o_pow x_int x_int))
  (q_cons (s_asg (x_bin o_fdiv (x_name 2) (x_name 1)) (pg_st (x_ix o_ix (x_name 0) x_int) (x_name 3) (pg_sub (x_ix o_ix (x_name 0) x_int) (x_name 3) set_list)))
  (q_one (s_ret (x_bin o_mod (x_name 2) (x_name 1)))))
  q_nil)
  (q_one (s_ret (x_bin o_mod (x_bin o_fdiv (x_bin o_mod (x_bin o_pow (x_bin o_add (x_bin o_add (x_bin o_mod (x_name 2) x_int) (x_bin o_mul x_int (x_ix o_ix (x_name 0) x_int))) x_int) x_int) x_int) x_int) (x_name 1))))))))
abbrev s__law_tree : Stmt := topS 38
abbrev N__law_tree : List Str := ["_law_deck_here", "_law_most", "_law_count", "_law_k", "_law_way", "_law_long", "_law_found", "_law_parent"]
theorem sc__law_tree : FnScope N__law_tree ["_law_deck_here", "_law_most"] (defScope s__law_tree) := ⟨rfl, rfl, rfl, by decide +kernel, rfl, by decide +kernel, by decide +kernel⟩
theorem ok__law_tree (T : Top mg) {f : Addr} {fd : FuncData} (F : Fun K "_law_tree" "_law_tree" s__law_tree f fd) {f__law_draw : Addr} {fd__law_draw : FuncData} (F_law_draw : Fun K "_law_draw" "_law_draw" s__law_draw f__law_draw fd__law_draw) (g__law_draw : mg "_law_draw" = some (.ref f__law_draw)) (b__law_draw : Binds K fd__law_draw ["_law_deck_here", "_law_limit"] []) (C__law_draw : Gk P w K mg base (L2.CX P w) 1 f__law_draw fd__law_draw ["_law_deck_here", "_law_limit"] (spM K 2 F__law_draw)) : Gk P w K mg base (L2.CX P w) 2 f fd ["_law_deck_here", "_law_most"] (spM K 2 F__law_tree) := by
  refine gk_of (k := 1) F sc__law_tree rfl G__law_tree (fun cdv A below s H E hg hr => ?_) same__law_tree
  have nd : N__law_tree.Nodup := sc__law_tree.nd
  have hx : Passes (L2.CX P w) (bx P w K mg base N__law_tree "_law_tree" s__law_tree f cdv A below s H E) E := bx_pass
  have ho : PassesOwn (model P w) (bx P w K mg base N__law_tree "_law_tree" s__law_tree f cdv A below s H E).A (bx P w K mg base N__law_tree "_law_tree" s__law_tree f cdv A below s H E).env (bx P w K mg base N__law_tree "_law_tree" s__law_tree f cdv A below s H E).xe := bx_own
  exact (q_cons (s_set 2 nd (x_ix o_ix (x_lst false (a_cons (x_bin o_add x_int (x_call1 C__law_draw hg hr g__law_draw F_law_draw.kp b__law_draw hx (a_cons (x_name 0) (a_cons (x_name 1) a_nil)))) (a_cons (x_name 1) a_nil))) (x_call1 C__law_draw hg hr g__law_draw F_law_draw.kp b__law_draw hx (a_cons (x_name 0) (a_cons x_int a_nil)))))
  (q_cons (s_par3 4 5 6 rfl nd (a_cons (x_call1 C__law_draw hg hr g__law_draw F_law_draw.kp b__law_draw hx (a_cons (x_name 0) (a_cons x_int a_nil))) (a_cons (x_ix o_ix (x_lst false (a_cons x_int (a_cons x_int (a_cons x_int (a_cons (x_bin o_pow x_int x_int) a_nil))))) (x_call1 C__law_draw hg hr g__law_draw F_law_draw.kp b__law_draw hx (a_cons (x_name 0) (a_cons x_int a_nil)))) (a_cons (x_tup a_nil) a_nil))) (by first | rfl | with_unfolding_all rfl))
  (q_cons (s_for ho rfl (i_rng rfl T.m_range (x_bin o_sub (x_name 2) x_int)) (pg_nm 3 nd)
  (q_cons (s_set 7 nd (x_ix o_ix (x_lst false (a_cons (x_call1 C__law_draw hg hr g__law_draw F_law_draw.kp b__law_draw hx (a_cons (x_name 0) (a_cons (x_bin o_add (x_name 3) x_int) a_nil))) (a_cons (x_name 3) (a_cons x_int (a_cons (x_callB b_max2 rfl T.m_max (by decide +kernel) (a_cons x_int (a_cons (x_bin o_sub (x_name 3) x_int) a_nil))) a_nil))))) (x_name 4)))
  (q_one (s_set 6 nd (x_bin o_add (x_name 6) (x_tup (a_cons (x_tup (a_cons (x_name 7) (a_cons (x_bin o_add x_int (x_call1 C__law_draw hg hr g__law_draw F_law_draw.kp b__law_draw hx (a_cons (x_name 0) (a_cons (x_name 5) a_nil)))) a_nil))) a_nil)))))))
  (q_one (s_ret (x_name 6))))))
abbrev s__law_pushes : Stmt := topS 40
abbrev N__law_pushes : List Str := ["_law_deck_here", "_law_tree_here", "_law_most", "_law_late", "_law_found", "_law_k"]
theorem sc__law_pushes : FnScope N__law_pushes ["_law_deck_here", "_law_tree_here", "_law_most", "_law_late"] (defScope s__law_pushes) := ⟨rfl, rfl, rfl, by decide +kernel, rfl, by decide +kernel, by decide +kernel⟩
theorem ok__law_pushes (T : Top mg) {f : Addr} {fd : FuncData} (F : Fun K "_law_pushes" "_law_pushes" s__law_pushes f fd) {f__law_draw : Addr} {fd__law_draw : FuncData} (F_law_draw : Fun K "_law_draw" "_law_draw" s__law_draw f__law_draw fd__law_draw) (g__law_draw : mg "_law_draw" = some (.ref f__law_draw)) (b__law_draw : Binds K fd__law_draw ["_law_deck_here", "_law_limit"] []) (C__law_draw : Gk P w K mg base (L2.CX P w) 1 f__law_draw fd__law_draw ["_law_deck_here", "_law_limit"] (spM K 2 F__law_draw)) : Gk P w K mg base (L2.CX P w) 2 f fd ["_law_deck_here", "_law_tree_here", "_law_most", "_law_late"] (spM K 4 F__law_pushes) := by
  refine gk_of (k := 1) F sc__law_pushes rfl G__law_pushes (fun cdv A below s H E hg hr => ?_) same__law_pushes
  have nd : N__law_pushes.Nodup := sc__law_pushes.nd
  have hx : Passes (L2.CX P w) (bx P w K mg base N__law_pushes "_law_pushes" s__law_pushes f cdv A below s H E) E := bx_pass
  have ho : PassesOwn (model P w) (bx P w K mg base N__law_pushes "_law_pushes" s__law_pushes f cdv A below s H E).A (bx P w K mg base N__law_pushes "_law_pushes" s__law_pushes f cdv A below s H E).env (bx P w K mg base N__law_pushes "_law_pushes" s__law_pushes f cdv A below s H E).xe := bx_own
  exact (q_cons (s_set 4 nd (x_lst true a_nil))
  (q_cons (s_for ho rfl (i_rng rfl T.m_range (x_bin o_add x_int (x_call1 C__law_draw hg hr g__law_draw F_law_draw.kp b__law_draw hx (a_cons (x_name 0) (a_cons (x_name 2) a_nil))))) (pg_nm 5 nd)
  (q_one (s_expr (x_append (x_name 4) (x_tup (a_cons (x_call1 C__law_draw hg hr g__law_draw F_law_draw.kp b__law_draw hx (a_cons (x_name 0) (a_cons (x_bin o_add (x_callB b_len rfl T.m_len PySem.boot_len (a_cons (x_name 1) a_nil)) x_int) a_nil))) (a_cons (x_call1 C__law_draw hg hr g__law_draw F_law_draw.kp b__law_draw hx (a_cons (x_name 0) (a_cons (x_name 3) a_nil))) a_nil)))))))
  (q_one (s_ret (x_callTy b_tuple rfl T.m_tuple (by decide +kernel) (a_cons (x_name 4) a_nil))))))
abbrev s__law_far : Stmt := topS 39
abbrev N__law_far : List Str := ["_law_tree_here", "_law_found", "_law_k", "_law_below", "_law_parent", "_law_length", "_law_mark"]
theorem sc__law_far : FnScope N__law_far ["_law_tree_here"] (defScope s__law_far) := ⟨rfl, rfl, rfl, by decide +kernel, rfl, by decide +kernel, by decide +kernel⟩
theorem ok__law_far (T : Top mg) {f : Addr} {fd : FuncData} (F : Fun K "_law_far" "_law_far" s__law_far f fd) : Gk P w K mg base (L2.CX P w) 1 f fd ["_law_tree_here"] (spM K 1 F__law_far) := by
  refine gk_of (k := 0) F sc__law_far rfl G__law_far (fun cdv A below s H E hg hr => ?_) same__law_far
  have nd : N__law_far.Nodup := sc__law_far.nd
  have hx : Passes (L2.CX P w) (bx P w K mg base N__law_far "_law_far" s__law_far f cdv A below s H E) E := bx_pass
  have ho : PassesOwn (model P w) (bx P w K mg base N__law_far "_law_far" s__law_far f cdv A below s H E).A (bx P w K mg base N__law_far "_law_far" s__law_far f cdv A below s H E).env (bx P w K mg base N__law_far "_law_far" s__law_far f cdv A below s H E).xe := bx_own
  exact (q_cons (s_set 1 nd (x_lst false (a_cons (x_lst false (a_cons x_int a_nil)) a_nil)))
  (q_cons (s_for ho rfl (i_rng rfl T.m_range (x_callB b_len rfl T.m_len PySem.boot_len (a_cons (x_name 0) a_nil))) (pg_nm 2 nd)
  (q_cons (s_asg (x_ix o_ix (x_name 0) (x_name 2)) (pg_tp 2 rfl (pgs_c (pg_nm 4 nd) (pgs_c (pg_nm 5 nd) pgs_0))))
  (q_cons (s_set 3 nd (x_lc false rfl nd (own := [("_law_mark", 6)]) (i_rng rfl T.m_range (x_bin o_add (x_name 2) x_int)) (blkOk_by (N := N__law_far) (sc := defScope s__law_far) (by decide +kernel)) (fun _ _ _ _ _ => (pw_nm 6 nd (by decide))) (fun _ _ _ _ _ => ts_nil) (fun _ _ _ _ _ => (x_bin o_add (x_ix o_ix (x_ix o_ix (x_name 1) (x_name 4)) (x_name 6)) (x_name 5)))))
  (q_one (s_set 1 nd (x_bin o_add (x_lc false rfl nd (own := [("_law_mark", 6)]) (i_rng rfl T.m_range (x_bin o_add (x_name 2) x_int)) (blkOk_by (N := N__law_far) (sc := defScope s__law_far) (by decide +kernel)) (fun _ _ _ _ _ => (pw_nm 6 nd (by decide))) (fun _ _ _ _ _ => ts_nil) (fun _ _ _ _ _ => (x_bin o_add (x_ix o_ix (x_name 1) (x_name 6)) (x_lst false (a_cons (x_ix o_ix (x_name 3) (x_name 6)) a_nil))))) (x_lst false (a_cons (x_bin o_add (x_name 3) (x_lst false (a_cons x_int a_nil))) a_nil))))))))
  (q_one (s_ret (x_name 1)))))
abbrev s__law_twin : Stmt := topS 43
abbrev N__law_twin : List Str := ["_law_rows", "_law_row", "_law_one"]
theorem sc__law_twin : FnScope N__law_twin ["_law_rows"] (defScope s__law_twin) := ⟨rfl, rfl, rfl, by decide +kernel, rfl, by decide +kernel, by decide +kernel⟩
theorem ok__law_twin (T : Top mg) {f : Addr} {fd : FuncData} (F : Fun K "_law_twin" "_law_twin" s__law_twin f fd) : Gk P w K mg base (L2.CX P w) 1 f fd ["_law_rows"] (spM K 1 F__law_twin) := by
  refine gk_of (k := 0) F sc__law_twin rfl G__law_twin (fun cdv A below s H E hg hr => ?_) same__law_twin
  have nd : N__law_twin.Nodup := sc__law_twin.nd
  have hx : Passes (L2.CX P w) (bx P w K mg base N__law_twin "_law_twin" s__law_twin f cdv A below s H E) E := bx_pass
  have ho : PassesOwn (model P w) (bx P w K mg base N__law_twin "_law_twin" s__law_twin f cdv A below s H E).A (bx P w K mg base N__law_twin "_law_twin" s__law_twin f cdv A below s H E).env (bx P w K mg base N__law_twin "_law_twin" s__law_twin f cdv A below s H E).xe := bx_own
  exact (q_one (s_ret (x_callTy b_tuple rfl T.m_tuple (by decide +kernel) (a_cons (x_lc false rfl nd (own := [("_law_row", 1)]) (i_seq (x_name 0)) (blkOk_by (N := N__law_twin) (sc := defScope s__law_twin) (by decide +kernel)) (fun _ _ _ _ _ => (pw_nm 1 nd (by decide))) (fun _ _ _ _ _ => ts_nil) (fun _ _ _ _ _ => (x_callTy b_tuple rfl T.m_tuple (by decide +kernel) (a_cons (x_lc false rfl nd (own := [("_law_one", 2)]) (i_seq (x_name 1)) (blkOk_by (N := N__law_twin) (by with_unfolding_all rfl)) (fun _ _ _ _ _ => (pw_nm 2 nd (by decide))) (fun _ _ _ _ _ => ts_nil) (fun _ _ _ _ _ => (x_ix o_ix (x_lst false (a_cons (x_name 2) (a_cons (x_cmp (o_eq (Room.units hr)) (x_name 2) x_int) a_nil))) (x_callTy b_int rfl T.m_int (by decide +kernel) (a_cons (x_cmp o_lt (x_name 2) x_int) a_nil))))) a_nil)))) a_nil))))
abbrev s__law_odd : Stmt := topS 42
abbrev N__law_odd : List Str := ["_law_deck_here", "_law_some"]
theorem sc__law_odd : FnScope N__law_odd ["_law_deck_here"] (defScope s__law_odd) := ⟨rfl, rfl, rfl, by decide +kernel, rfl, by decide +kernel, by decide +kernel⟩
theorem ok__law_odd (T : Top mg) {f : Addr} {fd : FuncData} (F : Fun K "_law_odd" "_law_odd" s__law_odd f fd) {f__law_draw : Addr} {fd__law_draw : FuncData} (F_law_draw : Fun K "_law_draw" "_law_draw" s__law_draw f__law_draw fd__law_draw) (g__law_draw : mg "_law_draw" = some (.ref f__law_draw)) (b__law_draw : Binds K fd__law_draw ["_law_deck_here", "_law_limit"] []) (C__law_draw : Gk P w K mg base (L2.CX P w) 1 f__law_draw fd__law_draw ["_law_deck_here", "_law_limit"] (spM K 2 F__law_draw)) : Gk P w K mg base (L2.CX P w) 2 f fd ["_law_deck_here"] (spM K 1 F__law_odd) := by
  refine gk_of (k := 1) F sc__law_odd rfl G__law_odd (fun cdv A below s H E hg hr => ?_) same__law_odd
  have nd : N__law_odd.Nodup := sc__law_odd.nd
  have hx : Passes (L2.CX P w) (bx P w K mg base N__law_odd "_law_odd" s__law_odd f cdv A below s H E) E := bx_pass
  have ho : PassesOwn (model P w) (bx P w K mg base N__law_odd "_law_odd" s__law_odd f cdv A below s H E).A (bx P w K mg base N__law_odd "_law_odd" s__law_odd f cdv A below s H E).env (bx P w K mg base N__law_odd "_law_odd" s__law_odd f cdv A below s H E).xe := bx_own
  exact (q_cons (s_set 1 nd (x_lst false (a_cons x_non (a_cons x_bl (a_cons x_bl (a_cons (x_ng x_int) (a_cons x_int (a_cons x_int (a_cons x_int (a_cons (x_bin o_pow x_int x_int) (a_cons x_str (a_cons x_str (a_cons (x_tup a_nil) (a_cons (x_lst false a_nil) (a_cons x_dict0 (a_cons (x_tup (a_cons x_int a_nil)) (a_cons (x_lst false (a_cons x_int a_nil)) (a_cons (x_tup (a_cons x_bl a_nil)) (a_cons (x_tup (a_cons x_int (a_cons x_int a_nil))) (a_cons (x_tup (a_cons x_int (a_cons x_int a_nil))) a_nil))))))))))))))))))))
  (q_one (s_ret (x_ix o_ix (x_bin o_add (x_name 1) (x_lst false (a_cons (x_tup (a_cons (x_tup (a_cons x_int (a_cons x_int a_nil))) a_nil)) (a_cons (x_tup (a_cons (x_tup (a_cons x_int (a_cons x_int a_nil))) a_nil)) (a_cons (x_lst false (a_cons (x_tup (a_cons x_int (a_cons x_int a_nil))) a_nil)) (a_cons (x_tup (a_cons x_int (a_cons x_bl a_nil))) (a_cons x_dict1 (a_cons (x_tup (a_cons (x_tup (a_cons x_int (a_cons (x_bin o_add (x_bin o_pow x_int x_int) x_int) a_nil))) a_nil)) a_nil)))))))) (x_call1 C__law_draw hg hr g__law_draw F_law_draw.kp b__law_draw hx (a_cons (x_name 0) (a_cons x_int a_nil)))))))
abbrev s__law_changed : Stmt := topS 46
abbrev N__law_changed : List Str := ["_law_deck_here", "_law_tree_here", "_law_pushes_here", "_law_push", "_law_part", "_law_bent", "_law_new", "_law_some", "_law_at", "_law_j", "_law_strange", "_law_head", "_law_tail", "_law_more"]
theorem sc__law_changed : FnScope N__law_changed ["_law_deck_here", "_law_tree_here", "_law_pushes_here"] (defScope s__law_changed) := ⟨rfl, rfl, rfl, by decide +kernel, rfl, by decide +kernel, by decide +kernel⟩
theorem ok__law_changed (T : Top mg) {f : Addr} {fd : FuncData} (F : Fun K "_law_changed" "_law_changed" s__law_changed f fd) {f__law_draw : Addr} {fd__law_draw : FuncData} (F_law_draw : Fun K "_law_draw" "_law_draw" s__law_draw f__law_draw fd__law_draw) (g__law_draw : mg "_law_draw" = some (.ref f__law_draw)) (b__law_draw : Binds K fd__law_draw ["_law_deck_here", "_law_limit"] []) (C__law_draw : Gk P w K mg base (L2.CX P w) 1 f__law_draw fd__law_draw ["_law_deck_here", "_law_limit"] (spM K 2 F__law_draw)) {f__law_odd : Addr} {fd__law_odd : FuncData} (F_law_odd : Fun K "_law_odd" "_law_odd" s__law_odd f__law_odd fd__law_odd) (g__law_odd : mg "_law_odd" = some (.ref f__law_odd)) (b__law_odd : Binds K fd__law_odd ["_law_deck_here"] []) (C__law_odd : Gk P w K mg base (L2.CX P w) 2 f__law_odd fd__law_odd ["_law_deck_here"] (spM K 1 F__law_odd)) : Gk P w K mg base (L2.CX P w) 3 f fd ["_law_deck_here", "_law_tree_here", "_law_pushes_here"] (spM K 3 F__law_changed) := by
  refine gk_of (k := 2) F sc__law_changed rfl G__law_changed (fun cdv A below s H E hg hr => ?_) same__law_changed
  have nd : N__law_changed.Nodup := sc__law_changed.nd
  have hx : Passes (L2.CX P w) (bx P w K mg base N__law_changed "_law_changed" s__law_changed f cdv A below s H E) E := bx_pass
  have ho : PassesOwn (model P w) (bx P w K mg base N__law_changed "_law_changed" s__law_changed f cdv A below s H E).A (bx P w K mg base N__law_changed "_law_changed" s__law_changed f cdv A below s H E).env (bx P w K mg base N__law_changed "_law_changed" s__law_changed f cdv A below s H E).xe := bx_own
  exact (q_cons (s_par3 8 9 10 rfl nd (a_cons (x_call1 C__law_draw hg hr g__law_draw F_law_draw.kp b__law_draw hx (a_cons (x_name 0) (a_cons (x_bin o_add (x_callB b_len rfl T.m_len PySem.boot_len (a_cons (x_name 2) a_nil)) x_int) a_nil))) (a_cons (x_call1 C__law_draw hg hr g__law_draw F_law_draw.kp b__law_draw hx (a_cons (x_name 0) (a_cons x_int a_nil))) (a_cons (x_call1 C__law_odd hg hr g__law_odd F_law_odd.kp b__law_odd hx (a_cons (x_name 0) a_nil)) a_nil))) (by first | rfl | with_unfolding_all rfl))
  (q_cons (s_set 3 nd (x_ix o_ix (x_bin o_add (x_name 2) (x_tup (a_cons (x_tup (a_cons x_int (a_cons (x_bin o_pow x_int x_int) a_nil))) a_nil))) (x_name 8)))
  (q_cons (s_set 4 nd (x_ix o_ix (x_lst false (a_cons (x_name 10) (a_cons (x_ix o_ix (x_lst false (a_cons (x_bin o_add (x_callB b_len rfl T.m_len PySem.boot_len (a_cons (x_name 1) a_nil)) x_int) (a_cons (x_bin o_add (x_bin o_pow x_int x_int) x_int) a_nil))) (x_name 9)) (a_cons (x_ng x_int) (a_cons (x_ix o_ix (x_name 3) (x_bin o_sub x_int (x_name 9))) a_nil))))) (x_call1 C__law_draw hg hr g__law_draw F_law_draw.kp b__law_draw hx (a_cons (x_name 0) (a_cons x_int a_nil)))))
  (q_cons (s_set 5 nd (x_lst false (a_cons (x_bin o_add (x_bin o_add (x_slice false (x_name 3) o_none (o_some (x_name 9))) (x_tup (a_cons (x_name 4) a_nil))) (x_slice false (x_name 3) (o_some (x_bin o_add (x_name 9) x_int)) o_none)) (a_cons (x_revT (x_name 3)) (a_cons (x_callTy b_list rfl T.m_list (by decide +kernel) (a_cons (x_name 3) a_nil)) (a_cons (x_slice false (x_name 3) o_none (o_some x_int)) (a_cons (x_bin o_add (x_name 3) (x_tup (a_cons x_int a_nil))) (a_cons (x_name 10) a_nil))))))))
  (q_cons (s_set 6 nd (x_ix o_ix (x_bin o_add (x_bin o_mul (x_slice false (x_name 5) o_none (o_some x_int)) x_int) (x_name 5)) (x_call1 C__law_draw hg hr g__law_draw F_law_draw.kp b__law_draw hx (a_cons (x_name 0) (a_cons x_int a_nil)))))
  (q_cons (s_par3 11 12 13 rfl nd (a_cons (x_slice false (x_name 2) o_none (o_some (x_name 8))) (a_cons (x_slice false (x_name 2) (o_some (x_bin o_add (x_name 8) x_int)) o_none) (a_cons (x_bin o_mulA (x_name 2) x_int) a_nil))) (by first | rfl | with_unfolding_all rfl))
  (q_cons (s_set 7 nd (x_lst false (a_cons (x_bin o_add (x_bin o_add (x_name 11) (x_tup (a_cons (x_name 6) a_nil))) (x_name 12)) (a_cons (x_bin o_add (x_bin o_add (x_name 11) (x_tup (a_cons (x_name 6) a_nil))) (x_slice false (x_name 2) (o_some (x_name 8)) o_none)) (a_cons (x_bin o_add (x_name 11) (x_name 12)) (a_cons (x_revT (x_name 2)) (a_cons (x_bin o_add (x_name 2) (x_slice false (x_name 2) o_none (o_some x_int))) a_nil)))))))
  (q_cons (s_set 7 nd (x_bin o_add (x_name 7) (x_lst false (a_cons (x_callTy b_list rfl T.m_list (by decide +kernel) (a_cons (x_name 2) a_nil)) (a_cons (x_tup (a_cons (x_name 2) a_nil)) (a_cons (x_name 10) (a_cons (x_slice false (x_name 13) o_none (o_some x_int)) (a_cons (x_slice false (x_name 13) o_none (o_some x_int)) a_nil))))))))
  (q_one (s_ret (x_ix o_ix (x_name 7) (x_callB b_max2 rfl T.m_max (by decide +kernel) (a_cons x_int (a_cons (x_bin o_sub (x_call1 C__law_draw hg hr g__law_draw F_law_draw.kp b__law_draw hx (a_cons (x_name 0) (a_cons x_int a_nil))) x_int) a_nil))))))))))))))
abbrev s__law_is_number : Stmt := topS 37
abbrev N__law_is_number : List Str := ["_law_value", "_law_low", "_law_high"]
theorem sc__law_is_number : FnScope N__law_is_number ["_law_value", "_law_low", "_law_high"] (defScope s__law_is_number) := ⟨rfl, rfl, rfl, by decide +kernel, rfl, by decide +kernel, by decide +kernel⟩
theorem ok__law_is_number (T : Top mg) {f : Addr} {fd : FuncData} (F : Fun K "_law_is_number" "_law_is_number" s__law_is_number f fd) : Gk P w K mg base (L2.CX P w) 1 f fd ["_law_value", "_law_low", "_law_high"] (spM K 3 F__law_is_number) := by
  refine gk_of (k := 0) F sc__law_is_number rfl G__law_is_number (fun cdv A below s H E hg hr => ?_) same__law_is_number
  have nd : N__law_is_number.Nodup := sc__law_is_number.nd
  have hx : Passes (L2.CX P w) (bx P w K mg base N__law_is_number "_law_is_number" s__law_is_number f cdv A below s H E) E := bx_pass
  have ho : PassesOwn (model P w) (bx P w K mg base N__law_is_number "_law_is_number" s__law_is_number f cdv A below s H E).A (bx P w K mg base N__law_is_number "_law_is_number" s__law_is_number f cdv A below s H E).env (bx P w K mg base N__law_is_number "_law_is_number" s__law_is_number f cdv A below s H E).xe := bx_own
  exact (q_one (s_ret (x_and (x_isi rfl T.m_isinstance PyProof.Rows.boot_isinstance rfl T.m_int (by decide +kernel) (x_name 0)) (x_and (x_not (x_isi rfl T.m_isinstance PyProof.Rows.boot_isinstance rfl T.m_bool (by decide +kernel) (x_name 0))) (x_one (x_chain o_le o_le (x_name 1) (x_name 0) (x_name 2)))))))
abbrev s__law_falls : Stmt := topS 41
abbrev N__law_falls : List Str := ["_law_far_here", "_law_pushes_here", "_law_found", "_law_mark", "_law_push"]
theorem sc__law_falls : FnScope N__law_falls ["_law_far_here", "_law_pushes_here"] (defScope s__law_falls) := ⟨rfl, rfl, rfl, by decide +kernel, rfl, by decide +kernel, by decide +kernel⟩
theorem ok__law_falls (T : Top mg) {f : Addr} {fd : FuncData} (F : Fun K "_law_falls" "_law_falls" s__law_falls f fd) {CBadPushes IBadPushes : Addr} (Z_BadPushes : Err_BadPushes.TL K mg CBadPushes IBadPushes) {CBadEdit : Addr} (e_BadEdit : mg "BadEdit" = some (.ref CBadEdit)) {CBadText : Addr} (e_BadText : mg "BadText" = some (.ref CBadText)) {CBadTree : Addr} (e_BadTree : mg "BadTree" = some (.ref CBadTree)) (x_FallError_BadPushes : PySem.W.exmOne K (.ref CBadPushes) (.ref CF) = some true) (q_BadPushes_BadEdit_BadText_BadTree : PySem.W.kitAny K (.ref CBadPushes) [.ref CBadEdit, .ref CBadText, .ref CBadTree] = some false) (q_BadPushes_ValueError : PySem.W.kitOne K (.ref CBadPushes) (.type "ValueError") = some true) : Gk P w K mg base (L2.CX P w) 3 f fd ["_law_far_here", "_law_pushes_here"] (spM K 2 F__law_falls) := by
  refine gk_of (k := 2) F sc__law_falls rfl G__law_falls (fun cdv A below s H E hg hr => ?_) same__law_falls
  have nd : N__law_falls.Nodup := sc__law_falls.nd
  have hx : Passes (L2.CX P w) (bx P w K mg base N__law_falls "_law_falls" s__law_falls f cdv A below s H E) E := bx_pass
  have ho : PassesOwn (model P w) (bx P w K mg base N__law_falls "_law_falls" s__law_falls f cdv A below s H E).A (bx P w K mg base N__law_falls "_law_falls" s__law_falls f cdv A below s H E).env (bx P w K mg base N__law_falls "_law_falls" s__law_falls f cdv A below s H E).xe := bx_own
  exact (q_cons (s_set 2 nd (x_lst true a_nil))
  (q_cons (s_for ho rfl (i_rng rfl T.m_range (x_callB b_len rfl T.m_len PySem.boot_len (a_cons (x_name 0) a_nil))) (pg_nm 3 nd)
  (q_one (s_expr (x_append (x_name 2) (x_callB (b_minA (Room.units hr)) rfl T.m_min (by decide +kernel) (a_cons (x_lc false rfl nd (own := [("_law_push", 4)]) (i_seq (x_name 1)) (blkOk_by (N := N__law_falls) (sc := defScope s__law_falls) (by decide +kernel)) (fun _ _ _ _ _ => (pw_nm 4 nd (by decide))) (fun _ _ _ _ _ => ts_nil) (fun _ _ _ _ _ => (x_bin o_add (x_ix o_ix (x_name 4) x_int) (x_ix o_ix (x_ix o_ix (x_name 0) (x_ix o_ix (x_name 4) x_int)) (x_name 3))))) a_nil))))))
  (q_one (s_ret (x_callTy b_tuple rfl T.m_tuple (by decide +kernel) (a_cons (x_name 2) a_nil))))))
abbrev s__law_due : Stmt := topS 44
abbrev N__law_due : List Str := ["_law_far_here", "_law_value", "_law_k", "_law_push"]
theorem sc__law_due : FnScope N__law_due ["_law_far_here", "_law_value"] (defScope s__law_due) := ⟨rfl, rfl, rfl, by decide +kernel, rfl, by decide +kernel, by decide +kernel⟩
theorem ok__law_due (T : Top mg) {f : Addr} {fd : FuncData} (F : Fun K "_law_due" "_law_due" s__law_due f fd) {f__law_is_number : Addr} {fd__law_is_number : FuncData} (F_law_is_number : Fun K "_law_is_number" "_law_is_number" s__law_is_number f__law_is_number fd__law_is_number) (g__law_is_number : mg "_law_is_number" = some (.ref f__law_is_number)) (b__law_is_number : Binds K fd__law_is_number ["_law_value", "_law_low", "_law_high"] []) (C__law_is_number : Gk P w K mg base (L2.CX P w) 1 f__law_is_number fd__law_is_number ["_law_value", "_law_low", "_law_high"] (spM K 3 F__law_is_number)) {f__law_falls : Addr} {fd__law_falls : FuncData} (F_law_falls : Fun K "_law_falls" "_law_falls" s__law_falls f__law_falls fd__law_falls) (g__law_falls : mg "_law_falls" = some (.ref f__law_falls)) (b__law_falls : Binds K fd__law_falls ["_law_far_here", "_law_pushes_here"] []) (C__law_falls : Gk P w K mg base (L2.CX P w) 3 f__law_falls fd__law_falls ["_law_far_here", "_law_pushes_here"] (spM K 2 F__law_falls)) : Gk P w K mg base (L2.CX P w) 4 f fd ["_law_far_here", "_law_value"] (spM K 2 F__law_due) := by
  refine gk_of (k := 3) F sc__law_due rfl G__law_due (fun cdv A below s H E hg hr => ?_) same__law_due
  have nd : N__law_due.Nodup := sc__law_due.nd
  have hx : Passes (L2.CX P w) (bx P w K mg base N__law_due "_law_due" s__law_due f cdv A below s H E) E := bx_pass
  have ho : PassesOwn (model P w) (bx P w K mg base N__law_due "_law_due" s__law_due f cdv A below s H E).A (bx P w K mg base N__law_due "_law_due" s__law_due f cdv A below s H E).env (bx P w K mg base N__law_due "_law_due" s__law_due f cdv A below s H E).xe := bx_own
  exact (q_cons (s_if (t_w (w_or (t_not (t_val (x_isi rfl T.m_isinstance PyProof.Rows.boot_isinstance rfl T.m_tuple (by decide +kernel) (x_name 1)))) (w_or (t_cmp o_lt (x_callB b_len rfl T.m_len PySem.boot_len (a_cons (x_name 1) a_nil)) x_int) (w_or1 (t_cmp o_gt (x_callB b_len rfl T.m_len PySem.boot_len (a_cons (x_name 1) a_nil)) x_int)))))
  (q_one (s_ret (x_lst false (a_cons x_str (a_cons x_non a_nil)))))
  q_nil)
  (q_cons (s_for ho rfl (i_enuA rfl T.m_enumerate (x_name 1)) (pg_tp 2 rfl (pgs_c (pg_nm 2 nd) (pgs_c (pg_nm 3 nd) pgs_0)))
  (q_cons (s_if (t_w (w_or (t_not (t_val (x_isi rfl T.m_isinstance PyProof.Rows.boot_isinstance rfl T.m_tuple (by decide +kernel) (x_name 3)))) (w_or (t_cmp (o_ne (Room.units hr)) (x_callB b_len rfl T.m_len PySem.boot_len (a_cons (x_name 3) a_nil)) x_int) (w_or1 (t_not (t_val (x_call1 C__law_is_number hg hr g__law_is_number F_law_is_number.kp b__law_is_number hx (a_cons (x_ix o_ix (x_name 3) x_int) (a_cons x_int (a_cons (x_bin o_sub (x_callB b_len rfl T.m_len PySem.boot_len (a_cons (x_name 0) a_nil)) x_int) a_nil))))))))))
  (q_one (s_ret (x_lst false (a_cons x_str (a_cons (x_name 2) a_nil)))))
  q_nil)
  (q_one (s_if (t_not (t_val (x_call1 C__law_is_number hg hr g__law_is_number F_law_is_number.kp b__law_is_number hx (a_cons (x_ix o_ix (x_name 3) x_int) (a_cons x_int (a_cons (x_bin o_pow x_int x_int) a_nil))))))
  (q_one (s_ret (x_lst false (a_cons x_str (a_cons (x_name 2) a_nil)))))
  q_nil))))
  (q_one (s_ret (x_call1 C__law_falls hg hr g__law_falls F_law_falls.kp b__law_falls hx (a_cons (x_name 0) (a_cons (x_name 1) a_nil)))))))
abbrev s_is_number : Stmt := topS 6
abbrev N_is_number : List Str := ["value"]
theorem sc_is_number : FnScope N_is_number ["value"] (defScope s_is_number) := ⟨rfl, rfl, rfl, by decide +kernel, rfl, by decide +kernel, by decide +kernel⟩
theorem ok_is_number (T : Top mg) {f : Addr} {fd : FuncData} (F : Fun K "is_number" "is_number" s_is_number f fd) : Gk P w K mg base (L2.CX P w) 1 f fd ["value"] (spM K 1 F_is_number) := by
  refine gk_of (k := 0) F sc_is_number rfl G_is_number (fun cdv A below s H E hg hr => ?_) same_is_number
  have nd : N_is_number.Nodup := sc_is_number.nd
  have hx : Passes (L2.CX P w) (bx P w K mg base N_is_number "is_number" s_is_number f cdv A below s H E) E := bx_pass
  have ho : PassesOwn (model P w) (bx P w K mg base N_is_number "is_number" s_is_number f cdv A below s H E).A (bx P w K mg base N_is_number "is_number" s_is_number f cdv A below s H E).env (bx P w K mg base N_is_number "is_number" s_is_number f cdv A below s H E).xe := bx_own
  exact (q_one (s_ret (x_and (x_isi rfl T.m_isinstance PyProof.Rows.boot_isinstance rfl T.m_int (by decide +kernel) (x_name 0)) (x_one (x_not (x_isi rfl T.m_isinstance PyProof.Rows.boot_isinstance rfl T.m_bool (by decide +kernel) (x_name 0)))))))
abbrev s_is_number_from_to : Stmt := topS 7
abbrev N_is_number_from_to : List Str := ["value", "least", "most"]
theorem sc_is_number_from_to : FnScope N_is_number_from_to ["value", "least", "most"] (defScope s_is_number_from_to) := ⟨rfl, rfl, rfl, by decide +kernel, rfl, by decide +kernel, by decide +kernel⟩
theorem ok_is_number_from_to (T : Top mg) {f : Addr} {fd : FuncData} (F : Fun K "is_number_from_to" "is_number_from_to" s_is_number_from_to f fd) {f_is_number : Addr} {fd_is_number : FuncData} (Fis_number : Fun K "is_number" "is_number" s_is_number f_is_number fd_is_number) (g_is_number : mg "is_number" = some (.ref f_is_number)) (b_is_number : Binds K fd_is_number ["value"] []) (C_is_number : Gk P w K mg base (L2.CX P w) 1 f_is_number fd_is_number ["value"] (spM K 1 F_is_number)) : Gk P w K mg base (L2.CX P w) 2 f fd ["value", "least", "most"] (spM K 3 F_is_number_from_to) := by
  refine gk_of (k := 1) F sc_is_number_from_to rfl G_is_number_from_to (fun cdv A below s H E hg hr => ?_) same_is_number_from_to
  have nd : N_is_number_from_to.Nodup := sc_is_number_from_to.nd
  have hx : Passes (L2.CX P w) (bx P w K mg base N_is_number_from_to "is_number_from_to" s_is_number_from_to f cdv A below s H E) E := bx_pass
  have ho : PassesOwn (model P w) (bx P w K mg base N_is_number_from_to "is_number_from_to" s_is_number_from_to f cdv A below s H E).A (bx P w K mg base N_is_number_from_to "is_number_from_to" s_is_number_from_to f cdv A below s H E).env (bx P w K mg base N_is_number_from_to "is_number_from_to" s_is_number_from_to f cdv A below s H E).xe := bx_own
  exact (q_one (s_ret (x_and (x_call1 C_is_number hg hr g_is_number Fis_number.kp b_is_number hx (a_cons (x_name 0) a_nil)) (x_one (x_chain o_le o_le (x_name 1) (x_name 0) (x_name 2))))))
abbrev s_is_tick : Stmt := topS 8
abbrev N_is_tick : List Str := ["value"]
theorem sc_is_tick : FnScope N_is_tick ["value"] (defScope s_is_tick) := ⟨rfl, rfl, rfl, by decide +kernel, rfl, by decide +kernel, by decide +kernel⟩
theorem ok_is_tick (T : Top mg) {f : Addr} {fd : FuncData} (F : Fun K "is_tick" "is_tick" s_is_tick f fd) {f_is_number_from_to : Addr} {fd_is_number_from_to : FuncData} (Fis_number_from_to : Fun K "is_number_from_to" "is_number_from_to" s_is_number_from_to f_is_number_from_to fd_is_number_from_to) (g_is_number_from_to : mg "is_number_from_to" = some (.ref f_is_number_from_to)) (b_is_number_from_to : Binds K fd_is_number_from_to ["value", "least", "most"] []) (C_is_number_from_to : Gk P w K mg base (L2.CX P w) 2 f_is_number_from_to fd_is_number_from_to ["value", "least", "most"] (spM K 3 F_is_number_from_to)) : Gk P w K mg base (L2.CX P w) 3 f fd ["value"] (spM K 1 F_is_tick) := by
  refine gk_of (k := 2) F sc_is_tick rfl G_is_tick (fun cdv A below s H E hg hr => ?_) same_is_tick
  have nd : N_is_tick.Nodup := sc_is_tick.nd
  have hx : Passes (L2.CX P w) (bx P w K mg base N_is_tick "is_tick" s_is_tick f cdv A below s H E) E := bx_pass
  have ho : PassesOwn (model P w) (bx P w K mg base N_is_tick "is_tick" s_is_tick f cdv A below s H E).A (bx P w K mg base N_is_tick "is_tick" s_is_tick f cdv A below s H E).env (bx P w K mg base N_is_tick "is_tick" s_is_tick f cdv A below s H E).xe := bx_own
  exact (q_one (s_ret (x_call1 C_is_number_from_to hg hr g_is_number_from_to Fis_number_from_to.kp b_is_number_from_to hx (a_cons (x_name 0) (a_cons x_int (a_cons (x_gintE rfl T.c_MAX_TICK) a_nil))))))
abbrev s_is_mark : Stmt := topS 23
abbrev N_is_mark : List Str := ["tree", "value"]
theorem sc_is_mark : FnScope N_is_mark ["tree", "value"] (defScope s_is_mark) := ⟨rfl, rfl, rfl, by decide +kernel, rfl, by decide +kernel, by decide +kernel⟩
theorem ok_is_mark (T : Top mg) {f : Addr} {fd : FuncData} (F : Fun K "is_mark" "is_mark" s_is_mark f fd) {f_is_number_from_to : Addr} {fd_is_number_from_to : FuncData} (Fis_number_from_to : Fun K "is_number_from_to" "is_number_from_to" s_is_number_from_to f_is_number_from_to fd_is_number_from_to) (g_is_number_from_to : mg "is_number_from_to" = some (.ref f_is_number_from_to)) (b_is_number_from_to : Binds K fd_is_number_from_to ["value", "least", "most"] []) (C_is_number_from_to : Gk P w K mg base (L2.CX P w) 2 f_is_number_from_to fd_is_number_from_to ["value", "least", "most"] (spM K 3 F_is_number_from_to)) : Gk P w K mg base (L2.CX P w) 3 f fd ["tree", "value"] (spM K 2 F_is_mark) := by
  refine gk_of (k := 2) F sc_is_mark rfl G_is_mark (fun cdv A below s H E hg hr => ?_) same_is_mark
  have nd : N_is_mark.Nodup := sc_is_mark.nd
  have hx : Passes (L2.CX P w) (bx P w K mg base N_is_mark "is_mark" s_is_mark f cdv A below s H E) E := bx_pass
  have ho : PassesOwn (model P w) (bx P w K mg base N_is_mark "is_mark" s_is_mark f cdv A below s H E).A (bx P w K mg base N_is_mark "is_mark" s_is_mark f cdv A below s H E).env (bx P w K mg base N_is_mark "is_mark" s_is_mark f cdv A below s H E).xe := bx_own
  exact (q_one (s_ret (x_call1 C_is_number_from_to hg hr g_is_number_from_to Fis_number_from_to.kp b_is_number_from_to hx (a_cons (x_name 1) (a_cons x_int (a_cons (x_callB b_len rfl T.m_len PySem.boot_len (a_cons (x_name 0) a_nil)) a_nil))))))
abbrev s_is_push : Stmt := topS 27
abbrev N_is_push : List Str := ["tree", "value"]
theorem sc_is_push : FnScope N_is_push ["tree", "value"] (defScope s_is_push) := ⟨rfl, rfl, rfl, by decide +kernel, rfl, by decide +kernel, by decide +kernel⟩
theorem ok_is_push (T : Top mg) {f : Addr} {fd : FuncData} (F : Fun K "is_push" "is_push" s_is_push f fd) {f_is_tick : Addr} {fd_is_tick : FuncData} (Fis_tick : Fun K "is_tick" "is_tick" s_is_tick f_is_tick fd_is_tick) (g_is_tick : mg "is_tick" = some (.ref f_is_tick)) (b_is_tick : Binds K fd_is_tick ["value"] []) (C_is_tick : Gk P w K mg base (L2.CX P w) 3 f_is_tick fd_is_tick ["value"] (spM K 1 F_is_tick)) {f_is_mark : Addr} {fd_is_mark : FuncData} (Fis_mark : Fun K "is_mark" "is_mark" s_is_mark f_is_mark fd_is_mark) (g_is_mark : mg "is_mark" = some (.ref f_is_mark)) (b_is_mark : Binds K fd_is_mark ["tree", "value"] []) (C_is_mark : Gk P w K mg base (L2.CX P w) 3 f_is_mark fd_is_mark ["tree", "value"] (spM K 2 F_is_mark)) : Gk P w K mg base (L2.CX P w) 4 f fd ["tree", "value"] (spM K 2 F_is_push) := by
  refine gk_of (k := 3) F sc_is_push rfl G_is_push (fun cdv A below s H E hg hr => ?_) same_is_push
  have nd : N_is_push.Nodup := sc_is_push.nd
  have hx : Passes (L2.CX P w) (bx P w K mg base N_is_push "is_push" s_is_push f cdv A below s H E) E := bx_pass
  have ho : PassesOwn (model P w) (bx P w K mg base N_is_push "is_push" s_is_push f cdv A below s H E).A (bx P w K mg base N_is_push "is_push" s_is_push f cdv A below s H E).env (bx P w K mg base N_is_push "is_push" s_is_push f cdv A below s H E).xe := bx_own
  exact (q_cons (s_if (t_w (w_or (t_not (t_val (x_isi rfl T.m_isinstance PyProof.Rows.boot_isinstance rfl T.m_tuple (by decide +kernel) (x_name 1)))) (w_or1 (t_cmp (o_ne (Room.units hr)) (x_callB b_len rfl T.m_len PySem.boot_len (a_cons (x_name 1) a_nil)) x_int))))
  (q_one (s_ret x_bl))
  q_nil)
  (q_one (s_ret (x_and (x_call1 C_is_mark hg hr g_is_mark Fis_mark.kp b_is_mark hx (a_cons (x_name 0) (a_cons (x_ix o_ix (x_name 1) x_int) a_nil))) (x_one (x_call1 C_is_tick hg hr g_is_tick Fis_tick.kp b_is_tick hx (a_cons (x_ix o_ix (x_name 1) x_int) a_nil)))))))
abbrev s_distances_of : Stmt := topS 24
abbrev N_distances_of : List Str := ["tree", "far", "parent", "length", "near", "way", "mark", "ways"]
theorem sc_distances_of : FnScope N_distances_of ["tree"] (defScope s_distances_of) := ⟨rfl, rfl, rfl, by decide +kernel, rfl, by decide +kernel, by decide +kernel⟩
theorem ok_distances_of (T : Top mg) {f : Addr} {fd : FuncData} (F : Fun K "distances_of" "distances_of" s_distances_of f fd) : Gk P w K mg base (L2.CX P w) 1 f fd ["tree"] (spM K 1 F_distances_of) := by
  refine gk_of (k := 0) F sc_distances_of rfl G_distances_of (fun cdv A below s H E hg hr => ?_) same_distances_of
  have nd : N_distances_of.Nodup := sc_distances_of.nd
  have hx : Passes (L2.CX P w) (bx P w K mg base N_distances_of "distances_of" s_distances_of f cdv A below s H E) E := bx_pass
  have ho : PassesOwn (model P w) (bx P w K mg base N_distances_of "distances_of" s_distances_of f cdv A below s H E).A (bx P w K mg base N_distances_of "distances_of" s_distances_of f cdv A below s H E).env (bx P w K mg base N_distances_of "distances_of" s_distances_of f cdv A below s H E).xe := bx_own
  exact (q_cons (s_set 1 nd (x_lst false (a_cons (x_lst false (a_cons x_int a_nil)) a_nil)))
  (q_cons (s_for ho rfl (i_seq (x_name 0)) (pg_tp 2 rfl (pgs_c (pg_nm 2 nd) (pgs_c (pg_nm 3 nd) pgs_0)))
  (q_cons (s_set 4 nd (x_lc false rfl nd (own := [("way", 5)]) (i_seq (x_ix o_ix (x_name 1) (x_name 2))) (blkOk_by (N := N_distances_of) (sc := defScope s_distances_of) (by decide +kernel)) (fun _ _ _ _ _ => (pw_nm 5 nd (by decide))) (fun _ _ _ _ _ => ts_nil) (fun _ _ _ _ _ => (x_bin o_add (x_name 5) (x_name 3)))))
  (q_one (s_set 1 nd (x_bin o_add (x_lc false rfl nd (own := [("mark", 6), ("ways", 7)]) (i_enuA rfl T.m_enumerate (x_name 1)) (blkOk_by (N := N_distances_of) (sc := defScope s_distances_of) (by decide +kernel)) (fun _ _ _ _ _ => (pw_tp 2 rfl (pws_c (pw_nm 6 nd (by decide)) (pws_c (pw_nm 7 nd (by decide)) pws_0)))) (fun _ _ _ _ _ => ts_nil) (fun _ _ _ _ _ => (x_bin o_add (x_name 7) (x_lst false (a_cons (x_ix o_ix (x_name 4) (x_name 6)) a_nil))))) (x_lst false (a_cons (x_bin o_add (x_name 4) (x_lst false (a_cons x_int a_nil))) a_nil)))))))
  (q_one (s_ret (x_name 1)))))
abbrev s__fall_from : Stmt := topS 28
abbrev N__fall_from : List Str := ["ways", "pushes", "pushed", "tick"]
theorem sc__fall_from : FnScope N__fall_from ["ways", "pushes"] (defScope s__fall_from) := ⟨rfl, rfl, rfl, by decide +kernel, rfl, by decide +kernel, by decide +kernel⟩
theorem ok__fall_from (T : Top mg) {f : Addr} {fd : FuncData} (F : Fun K "_fall_from" "_fall_from" s__fall_from f fd) : Gk P w K mg base (L2.CX P w) 1 f fd ["ways", "pushes"] (spM K 2 F__fall_from) := by
  refine gk_of (k := 0) F sc__fall_from rfl G__fall_from (fun cdv A below s H E hg hr => ?_) same__fall_from
  have nd : N__fall_from.Nodup := sc__fall_from.nd
  have hx : Passes (L2.CX P w) (bx P w K mg base N__fall_from "_fall_from" s__fall_from f cdv A below s H E) E := bx_pass
  have ho : PassesOwn (model P w) (bx P w K mg base N__fall_from "_fall_from" s__fall_from f cdv A below s H E).A (bx P w K mg base N__fall_from "_fall_from" s__fall_from f cdv A below s H E).env (bx P w K mg base N__fall_from "_fall_from" s__fall_from f cdv A below s H E).xe := bx_own
  exact (q_one (s_ret (x_callB (b_minA (Room.units hr)) rfl T.m_min (by decide +kernel) (a_cons (x_lc false rfl nd (own := [("pushed", 2), ("tick", 3)]) (i_seq (x_name 1)) (blkOk_by (N := N__fall_from) (sc := defScope s__fall_from) (by decide +kernel)) (fun _ _ _ _ _ => (pw_tp 2 rfl (pws_c (pw_nm 2 nd (by decide)) (pws_c (pw_nm 3 nd (by decide)) pws_0)))) (fun _ _ _ _ _ => ts_nil) (fun _ _ _ _ _ => (x_bin o_add (x_name 3) (x_ix o_ix (x_name 0) (x_name 2))))) a_nil))))
abbrev s_falls_of : Stmt := topS 26
abbrev N_falls_of : List Str := ["tree", "value", "index", "push", "ways"]
theorem sc_falls_of : FnScope N_falls_of ["tree", "value"] (defScope s_falls_of) := ⟨rfl, rfl, rfl, by decide +kernel, rfl, by decide +kernel, by decide +kernel⟩
theorem ok_falls_of (T : Top mg) {f : Addr} {fd : FuncData} (F : Fun K "falls_of" "falls_of" s_falls_of f fd) {CBadPushes IBadPushes : Addr} (Z_BadPushes : Err_BadPushes.TL K mg CBadPushes IBadPushes) {f_is_push : Addr} {fd_is_push : FuncData} (Fis_push : Fun K "is_push" "is_push" s_is_push f_is_push fd_is_push) (g_is_push : mg "is_push" = some (.ref f_is_push)) (b_is_push : Binds K fd_is_push ["tree", "value"] []) (C_is_push : Gk P w K mg base (L2.CX P w) 4 f_is_push fd_is_push ["tree", "value"] (spM K 2 F_is_push)) {f_distances_of : Addr} {fd_distances_of : FuncData} (Fdistances_of : Fun K "distances_of" "distances_of" s_distances_of f_distances_of fd_distances_of) (g_distances_of : mg "distances_of" = some (.ref f_distances_of)) (b_distances_of : Binds K fd_distances_of ["tree"] []) (C_distances_of : Gk P w K mg base (L2.CX P w) 1 f_distances_of fd_distances_of ["tree"] (spM K 1 F_distances_of)) {f__fall_from : Addr} {fd__fall_from : FuncData} (F_fall_from : Fun K "_fall_from" "_fall_from" s__fall_from f__fall_from fd__fall_from) (g__fall_from : mg "_fall_from" = some (.ref f__fall_from)) (b__fall_from : Binds K fd__fall_from ["ways", "pushes"] []) (C__fall_from : Gk P w K mg base (L2.CX P w) 1 f__fall_from fd__fall_from ["ways", "pushes"] (spM K 2 F__fall_from)) : Gk P w K mg base (L2.CX P w) 5 f fd ["tree", "value"] (spM K 2 F_falls_of) := by
  refine gk_of (k := 4) F sc_falls_of rfl G_falls_of (fun cdv A below s H E hg hr => ?_) same_falls_of
  have nd : N_falls_of.Nodup := sc_falls_of.nd
  have hx : Passes (L2.CX P w) (bx P w K mg base N_falls_of "falls_of" s_falls_of f cdv A below s H E) E := bx_pass
  have ho : PassesOwn (model P w) (bx P w K mg base N_falls_of "falls_of" s_falls_of f cdv A below s H E).A (bx P w K mg base N_falls_of "falls_of" s_falls_of f cdv A below s H E).env (bx P w K mg base N_falls_of "falls_of" s_falls_of f cdv A below s H E).xe := bx_own
  exact (q_cons (s_if (t_w (w_or (t_not (t_val (x_isi rfl T.m_isinstance PyProof.Rows.boot_isinstance rfl T.m_tuple (by decide +kernel) (x_name 1)))) (w_or1 (t_not (t_chain o_le o_le x_int (x_callB b_len rfl T.m_len PySem.boot_len (a_cons (x_name 1) a_nil)) (x_gintE rfl T.c_MAX_PUSHES))))))
  (q_one (Err_BadPushes.s_raise Z_BadPushes rfl hr (takes_of rfl rfl rfl rfl) x_non))
  q_nil)
  (q_cons (s_for ho rfl (i_enuA rfl T.m_enumerate (x_name 1)) (pg_tp 2 rfl (pgs_c (pg_nm 2 nd) (pgs_c (pg_nm 3 nd) pgs_0)))
  (q_one (s_if (t_not (t_val (x_call1 C_is_push hg hr g_is_push Fis_push.kp b_is_push hx (a_cons (x_name 0) (a_cons (x_name 3) a_nil)))))
  (q_one (Err_BadPushes.s_raise Z_BadPushes rfl hr (takes_of rfl rfl rfl rfl) (x_name 2)))
  q_nil)))
  (q_one (s_ret (x_callTy b_tuple rfl T.m_tuple (by decide +kernel) (a_cons (x_lc false rfl nd (own := [("ways", 4)]) (i_seq (x_call1 C_distances_of hg hr g_distances_of Fdistances_of.kp b_distances_of hx (a_cons (x_name 0) a_nil))) (blkOk_by (N := N_falls_of) (sc := defScope s_falls_of) (by decide +kernel)) (fun _ _ _ _ _ => (pw_nm 4 nd (by decide))) (fun _ _ _ _ _ => ts_nil) (fun _ _ _ _ _ => (x_call1 C__fall_from hg hr g__fall_from F_fall_from.kp b__fall_from passL (a_cons (x_name 4) (a_cons (x_name 1) a_nil))))) a_nil))))))
abbrev s__law_told : Stmt := topS 45
abbrev N__law_told : List Str := ["_law_tree_here", "_law_value", "e"]
theorem sc__law_told : FnScope N__law_told ["_law_tree_here", "_law_value"] (defScope s__law_told) := ⟨rfl, rfl, rfl, by decide +kernel, rfl, by decide +kernel, by decide +kernel⟩
theorem ok__law_told (T : Top mg) {f : Addr} {fd : FuncData} (F : Fun K "_law_told" "_law_told" s__law_told f fd) {CBadPushes IBadPushes : Addr} (Z_BadPushes : Err_BadPushes.TL K mg CBadPushes IBadPushes) {CBadEdit : Addr} (e_BadEdit : mg "BadEdit" = some (.ref CBadEdit)) {CBadText : Addr} (e_BadText : mg "BadText" = some (.ref CBadText)) {CBadTree : Addr} (e_BadTree : mg "BadTree" = some (.ref CBadTree)) {CF : Addr} (e_FallError : mg "FallError" = some (.ref CF)) (x_FallError_BadPushes : PySem.W.exmOne K (.ref CBadPushes) (.ref CF) = some true) (q_BadPushes_BadEdit_BadText_BadTree : PySem.W.kitAny K (.ref CBadPushes) [.ref CBadEdit, .ref CBadText, .ref CBadTree] = some false) (q_BadPushes_ValueError : PySem.W.kitOne K (.ref CBadPushes) (.type "ValueError") = some true) {f_falls_of : Addr} {fd_falls_of : FuncData} (Ffalls_of : Fun K "falls_of" "falls_of" s_falls_of f_falls_of fd_falls_of) (g_falls_of : mg "falls_of" = some (.ref f_falls_of)) (b_falls_of : Binds K fd_falls_of ["tree", "value"] []) (C_falls_of : Gk P w K mg base (L2.CX P w) 5 f_falls_of fd_falls_of ["tree", "value"] (spM K 2 F_falls_of)) : Gk P w K mg base (L2.CX P w) 6 f fd ["_law_tree_here", "_law_value"] (spM K 2 F__law_told) := by
  refine gk_of (k := 5) F sc__law_told rfl G__law_told (fun cdv A below s H E hg hr => ?_) same__law_told
  have nd : N__law_told.Nodup := sc__law_told.nd
  have hx : Passes (L2.CX P w) (bx P w K mg base N__law_told "_law_told" s__law_told f cdv A below s H E) E := bx_pass
  have ho : PassesOwn (model P w) (bx P w K mg base N__law_told "_law_told" s__law_told f cdv A below s H E).A (bx P w K mg base N__law_told "_law_told" s__law_told f cdv A below s H E).env (bx P w K mg base N__law_told "_law_told" s__law_told f cdv A below s H E).xe := bx_own
  exact (q_cons (s_tryX 2 e_FallError rfl rfl nd rfl rfl rfl (by decide) (hent_cons (ent_of Z_BadPushes.nC x_FallError_BadPushes (fun a oe dd v d pn r hz hf hv => (sr_ifT (st_w (sw_and (st_val (se_isi1 (exk_BadPushes Z_BadPushes) hz hf rfl T.m_isinstance rfl (.inl rfl) (pe_cls rfl Z_BadPushes.gC) rfl (if_pos (beq_self_eq_true _)))) (sw_and (st_val (se_isi1 (exk_BadPushes Z_BadPushes) hz hf rfl T.m_isinstance rfl (.inl rfl) (pe_typ rfl T.m_ValueError (by decide +kernel)) rfl q_BadPushes_ValueError)) (sw_and1 (st_not (st_val (se_isiN (exk_BadPushes Z_BadPushes) hz hf rfl T.m_isinstance rfl (.inl rfl) (cs_cons (pe_cls rfl e_BadEdit) (cs_cons (pe_cls rfl e_BadText) (cs_cons (pe_cls rfl e_BadTree) cs_nil))) rfl q_BadPushes_BadEdit_BadText_BadTree))))))) (sr_ret (se_lst (ses_cons se_str (ses_cons (se_fld (exk_BadPushes Z_BadPushes) hz hf Z_BadPushes.f_fld rfl (.inl rfl)) ses_nil))))))) hent_nil) (fun W pn xe tk => (q_one (s_ret (x_call1 C_falls_of hg hr g_falls_of Ffalls_of.kp b_falls_of (passW tk) (a_cons (x_name 0) (a_cons (x_name 1) a_nil)))))))
  (q_one (s_ret (x_lst false (a_cons x_str a_nil)))))
abbrev s__law_same : Stmt := topS 36
abbrev N__law_same : List Str := ["_law_value", "_law_due_here"]
theorem sc__law_same : FnScope N__law_same ["_law_value", "_law_due_here"] (defScope s__law_same) := ⟨rfl, rfl, rfl, by decide +kernel, rfl, by decide +kernel, by decide +kernel⟩
theorem ok__law_same (T : Top mg) {f : Addr} {fd : FuncData} (F : Fun K "_law_same" "_law_same" s__law_same f fd) : Gk P w K mg base (L2.CX P w) 1 f fd ["_law_value", "_law_due_here"] (spM K 2 F__law_same) := by
  refine gk_of (k := 0) F sc__law_same rfl G__law_same (fun cdv A below s H E hg hr => ?_) same__law_same
  have nd : N__law_same.Nodup := sc__law_same.nd
  have hx : Passes (L2.CX P w) (bx P w K mg base N__law_same "_law_same" s__law_same f cdv A below s H E) E := bx_pass
  have ho : PassesOwn (model P w) (bx P w K mg base N__law_same "_law_same" s__law_same f cdv A below s H E).A (bx P w K mg base N__law_same "_law_same" s__law_same f cdv A below s H E).env (bx P w K mg base N__law_same "_law_same" s__law_same f cdv A below s H E).xe := bx_own
  exact (q_one (s_ret (x_cmp (o_eq (Room.units hr)) (x_callB (b_repr hg (Room.units hr)) rfl T.m_repr (by decide +kernel) (a_cons (x_name 0) a_nil)) (x_callB (b_repr hg (Room.units hr)) rfl T.m_repr (by decide +kernel) (a_cons (x_name 1) a_nil)))))
abbrev s_is_row : Stmt := topS 22
abbrev N_is_row : List Str := ["row", "index"]
theorem sc_is_row : FnScope N_is_row ["row", "index"] (defScope s_is_row) := ⟨rfl, rfl, rfl, by decide +kernel, rfl, by decide +kernel, by decide +kernel⟩
theorem ok_is_row (T : Top mg) {f : Addr} {fd : FuncData} (F : Fun K "is_row" "is_row" s_is_row f fd) {f_is_number_from_to : Addr} {fd_is_number_from_to : FuncData} (Fis_number_from_to : Fun K "is_number_from_to" "is_number_from_to" s_is_number_from_to f_is_number_from_to fd_is_number_from_to) (g_is_number_from_to : mg "is_number_from_to" = some (.ref f_is_number_from_to)) (b_is_number_from_to : Binds K fd_is_number_from_to ["value", "least", "most"] []) (C_is_number_from_to : Gk P w K mg base (L2.CX P w) 2 f_is_number_from_to fd_is_number_from_to ["value", "least", "most"] (spM K 3 F_is_number_from_to)) : Gk P w K mg base (L2.CX P w) 3 f fd ["row", "index"] (spM K 2 F_is_row) := by
  refine gk_of (k := 2) F sc_is_row rfl G_is_row (fun cdv A below s H E hg hr => ?_) same_is_row
  have nd : N_is_row.Nodup := sc_is_row.nd
  have hx : Passes (L2.CX P w) (bx P w K mg base N_is_row "is_row" s_is_row f cdv A below s H E) E := bx_pass
  have ho : PassesOwn (model P w) (bx P w K mg base N_is_row "is_row" s_is_row f cdv A below s H E).A (bx P w K mg base N_is_row "is_row" s_is_row f cdv A below s H E).env (bx P w K mg base N_is_row "is_row" s_is_row f cdv A below s H E).xe := bx_own
  exact (q_cons (s_if (t_w (w_or (t_not (t_val (x_isi rfl T.m_isinstance PyProof.Rows.boot_isinstance rfl T.m_tuple (by decide +kernel) (x_name 0)))) (w_or1 (t_cmp (o_ne (Room.units hr)) (x_callB b_len rfl T.m_len PySem.boot_len (a_cons (x_name 0) a_nil)) x_int))))
  (q_one (s_ret x_bl))
  q_nil)
  (q_one (s_ret (x_and (x_call1 C_is_number_from_to hg hr g_is_number_from_to Fis_number_from_to.kp b_is_number_from_to hx (a_cons (x_ix o_ix (x_name 0) x_int) (a_cons x_int (a_cons (x_name 1) a_nil)))) (x_one (x_call1 C_is_number_from_to hg hr g_is_number_from_to Fis_number_from_to.kp b_is_number_from_to hx (a_cons (x_ix o_ix (x_name 0) x_int) (a_cons x_int (a_cons (x_gintE rfl T.c_MAX_LENGTH) a_nil)))))))))
abbrev s_tree_error : Stmt := topS 21
abbrev N_tree_error : List Str := ["value", "index", "row"]
theorem sc_tree_error : FnScope N_tree_error ["value"] (defScope s_tree_error) := ⟨rfl, rfl, rfl, by decide +kernel, rfl, by decide +kernel, by decide +kernel⟩
theorem ok_tree_error (T : Top mg) {f : Addr} {fd : FuncData} (F : Fun K "tree_error" "tree_error" s_tree_error f fd) {f_is_row : Addr} {fd_is_row : FuncData} (Fis_row : Fun K "is_row" "is_row" s_is_row f_is_row fd_is_row) (g_is_row : mg "is_row" = some (.ref f_is_row)) (b_is_row : Binds K fd_is_row ["row", "index"] []) (C_is_row : Gk P w K mg base (L2.CX P w) 3 f_is_row fd_is_row ["row", "index"] (spM K 2 F_is_row)) : Gk P w K mg base (L2.CX P w) 4 f fd ["value"] (spM K 1 F_tree_error) := by
  refine gk_of (k := 3) F sc_tree_error rfl G_tree_error (fun cdv A below s H E hg hr => ?_) same_tree_error
  have nd : N_tree_error.Nodup := sc_tree_error.nd
  have hx : Passes (L2.CX P w) (bx P w K mg base N_tree_error "tree_error" s_tree_error f cdv A below s H E) E := bx_pass
  have ho : PassesOwn (model P w) (bx P w K mg base N_tree_error "tree_error" s_tree_error f cdv A below s H E).A (bx P w K mg base N_tree_error "tree_error" s_tree_error f cdv A below s H E).env (bx P w K mg base N_tree_error "tree_error" s_tree_error f cdv A below s H E).xe := bx_own
  exact (q_cons (s_if (t_w (w_or (t_not (t_val (x_isi rfl T.m_isinstance PyProof.Rows.boot_isinstance rfl T.m_tuple (by decide +kernel) (x_name 0)))) (w_or1 (t_cmp o_gt (x_callB b_len rfl T.m_len PySem.boot_len (a_cons (x_name 0) a_nil)) (x_bin o_sub (x_gintE rfl T.c_MAX_MARKS) x_int)))))
  (q_one (s_ret (x_tup (a_cons x_non (a_cons x_str a_nil)))))
  q_nil)
  (q_cons (s_for ho rfl (i_enuA rfl T.m_enumerate (x_name 0)) (pg_tp 2 rfl (pgs_c (pg_nm 1 nd) (pgs_c (pg_nm 2 nd) pgs_0)))
  (q_one (s_if (t_not (t_val (x_call1 C_is_row hg hr g_is_row Fis_row.kp b_is_row hx (a_cons (x_name 2) (a_cons (x_name 1) a_nil)))))
  (q_one (s_ret (x_tup (a_cons (x_name 1) (a_cons x_str a_nil)))))
  q_nil)))
  (q_one (s_ret x_non))))
abbrev s_is_table : Stmt := topS 29
abbrev N_is_table : List Str := ["tree", "value", "number", "row", "parent", "length"]
theorem sc_is_table : FnScope N_is_table ["tree", "value"] (defScope s_is_table) := ⟨rfl, rfl, rfl, by decide +kernel, rfl, by decide +kernel, by decide +kernel⟩
theorem ok_is_table (T : Top mg) {f : Addr} {fd : FuncData} (F : Fun K "is_table" "is_table" s_is_table f fd) {f_is_number_from_to : Addr} {fd_is_number_from_to : FuncData} (Fis_number_from_to : Fun K "is_number_from_to" "is_number_from_to" s_is_number_from_to f_is_number_from_to fd_is_number_from_to) (g_is_number_from_to : mg "is_number_from_to" = some (.ref f_is_number_from_to)) (b_is_number_from_to : Binds K fd_is_number_from_to ["value", "least", "most"] []) (C_is_number_from_to : Gk P w K mg base (L2.CX P w) 2 f_is_number_from_to fd_is_number_from_to ["value", "least", "most"] (spM K 3 F_is_number_from_to)) : Gk P w K mg base (L2.CX P w) 3 f fd ["tree", "value"] (spM K 2 F_is_table) := by
  refine gk_of (k := 2) F sc_is_table rfl G_is_table (fun cdv A below s H E hg hr => ?_) same_is_table
  have nd : N_is_table.Nodup := sc_is_table.nd
  have hx : Passes (L2.CX P w) (bx P w K mg base N_is_table "is_table" s_is_table f cdv A below s H E) E := bx_pass
  have ho : PassesOwn (model P w) (bx P w K mg base N_is_table "is_table" s_is_table f cdv A below s H E).A (bx P w K mg base N_is_table "is_table" s_is_table f cdv A below s H E).env (bx P w K mg base N_is_table "is_table" s_is_table f cdv A below s H E).xe := bx_own
  exact (q_cons (s_if (t_w (w_or (t_not (t_val (x_isi rfl T.m_isinstance PyProof.Rows.boot_isinstance rfl T.m_tuple (by decide +kernel) (x_name 1)))) (w_or1 (t_cmp (o_ne (Room.units hr)) (x_callB b_len rfl T.m_len PySem.boot_len (a_cons (x_name 1) a_nil)) (x_bin o_add (x_callB b_len rfl T.m_len PySem.boot_len (a_cons (x_name 0) a_nil)) x_int)))))
  (q_one (s_ret x_bl))
  q_nil)
  (q_cons (s_if (t_not (t_val (x_callB b_all rfl T.m_all (by decide +kernel) (a_cons (x_lc false rfl nd (own := [("number", 2)]) (i_seq (x_name 1)) (blkOk_by (N := N_is_table) (sc := defScope s_is_table) (by decide +kernel)) (fun _ _ _ _ _ => (pw_nm 2 nd (by decide))) (fun _ _ _ _ _ => ts_nil) (fun _ _ _ _ _ => (x_call1 C_is_number_from_to hg hr g_is_number_from_to Fis_number_from_to.kp b_is_number_from_to passL (a_cons (x_name 2) (a_cons x_int (a_cons (x_gintE rfl T.c_LIMIT) a_nil)))))) a_nil))))
  (q_one (s_ret x_bl))
  q_nil)
  (q_one (s_ret (x_callB b_all rfl T.m_all (by decide +kernel) (a_cons (x_lc false rfl nd (own := [("row", 3), ("parent", 4), ("length", 5)]) (i_enuA rfl T.m_enumerate (x_name 0)) (blkOk_by (N := N_is_table) (sc := defScope s_is_table) (by decide +kernel)) (fun _ _ _ _ _ => (pw_tp 2 rfl (pws_c (pw_nm 3 nd (by decide)) (pws_c (pw_tp 2 rfl (pws_c (pw_nm 4 nd (by decide)) (pws_c (pw_nm 5 nd (by decide)) pws_0))) pws_0)))) (fun _ _ _ _ _ => ts_nil) (fun _ _ _ _ _ => (x_cmp o_le (x_callB b_abs rfl T.m_abs PyProof.Rows.boot_abs (a_cons (x_bin o_sub (x_ix o_ix (x_name 1) (x_bin o_add (x_name 3) x_int)) (x_ix o_ix (x_name 1) (x_name 4))) a_nil)) (x_name 5)))) a_nil))))))
abbrev s_Falls_init : Stmt := (clsB (topS 32)).getD 0 (.Pass ⟨0, 0, 0, 0⟩)
abbrev N_Falls_init : List Str := ["self", "tree", "table", "error"]
theorem sc_Falls_init : FnScope N_Falls_init ["self", "tree", "table"] (defScope s_Falls_init) := ⟨rfl, rfl, rfl, by decide +kernel, rfl, by decide +kernel, by decide +kernel⟩
theorem ok_Falls_init (T : Top mg) {f : Addr} {fd : FuncData} (F : Fun K "__init__" "Falls.__init__" s_Falls_init f fd) {CBadTable IBadTable : Addr} (Z_BadTable : Err_BadTable.TL K mg CBadTable IBadTable) {CBadTree IBadTree : Addr} (Z_BadTree : Err_BadTree.TL K mg CBadTree IBadTree) {f_tree_error : Addr} {fd_tree_error : FuncData} (Ftree_error : Fun K "tree_error" "tree_error" s_tree_error f_tree_error fd_tree_error) (g_tree_error : mg "tree_error" = some (.ref f_tree_error)) (b_tree_error : Binds K fd_tree_error ["value"] []) (C_tree_error : Gk P w K mg base (L2.CX P w) 4 f_tree_error fd_tree_error ["value"] (spM K 1 F_tree_error)) {f_is_table : Addr} {fd_is_table : FuncData} (Fis_table : Fun K "is_table" "is_table" s_is_table f_is_table fd_is_table) (g_is_table : mg "is_table" = some (.ref f_is_table)) (b_is_table : Binds K fd_is_table ["tree", "value"] []) (C_is_table : Gk P w K mg base (L2.CX P w) 3 f_is_table fd_is_table ["tree", "value"] (spM K 2 F_is_table)) : Gk P w K mg base (L2.CX P w) 5 f fd ["self", "tree", "table"] (spF K 2 "Falls" ["_tree", "_table"] F_Falls_init) := by
  refine gk_init (init_of (k0 := 4) (n := 2) F sc_Falls_init rfl (by decide) (fun cdv A below s H E hg hr => ?_)) same_Falls_init
  have nd : N_Falls_init.Nodup := sc_Falls_init.nd
  have hx : Passes (L2.CX P w) (bx P w K mg base N_Falls_init "Falls.__init__" s_Falls_init f cdv A below s H E) E := bx_pass
  have ho : PassesOwn (model P w) (bx P w K mg base N_Falls_init "Falls.__init__" s_Falls_init f cdv A below s H E).A (bx P w K mg base N_Falls_init "Falls.__init__" s_Falls_init f cdv A below s H E).env (bx P w K mg base N_Falls_init "Falls.__init__" s_Falls_init f cdv A below s H E).xe := bx_own
  exact (in_cons (s_set 3 nd (x_call1 C_tree_error hg hr g_tree_error Ftree_error.kp b_tree_error hx (a_cons (x_name 1) a_nil)))
  (in_cons (s_if (t_cmp o_isnot (x_name 3) x_non)
  (q_one (Err_BadTree.s_raise Z_BadTree rfl hr (takes_of rfl rfl rfl rfl) (x_name 3)))
  q_nil)
  (in_cons (s_if (t_not (t_val (x_call1 C_is_table hg hr g_is_table Fis_table.kp b_is_table hx (a_cons (x_name 1) (a_cons (x_name 2) a_nil)))))
  (q_one (Err_BadTable.s_raise Z_BadTable rfl hr (takes_of rfl rfl rfl rfl) (x_name 2)))
  q_nil)
  (in_stores (st_cons (x_name 1) (st_cons (x_name 2) .nil)) rfl (by decide)))))
abbrev s_law : Stmt := topS 47
abbrev N_law : List Str := ["_law_script", "_law_deck_here", "_law_turn", "_law_tree_here", "_law_pushes_here", "_law_values", "_law_value", "_law_far_here", "_law_found", "_law_before", "_law_due_here", "_law_k", "_law_again"]
theorem sc_law : FnScope N_law ["_law_script"] (defScope s_law) := ⟨rfl, rfl, rfl, by decide +kernel, rfl, by decide +kernel, by decide +kernel⟩
theorem ok_law (T : Top mg) {f : Addr} {fd : FuncData} (F : Fun K "law" "law" s_law f fd) {CFalls : Addr} (O_Falls : ObC K CFalls "Falls" ["_tree", "_table"]) {f__law_deck : Addr} {fd__law_deck : FuncData} (F_law_deck : Fun K "_law_deck" "_law_deck" s__law_deck f__law_deck fd__law_deck) (g__law_deck : mg "_law_deck" = some (.ref f__law_deck)) (b__law_deck : Binds K fd__law_deck ["_law_script"] []) (C__law_deck : Gk P w K mg base (L2.CX P w) 1 f__law_deck fd__law_deck ["_law_script"] (spM K 1 F__law_deck)) {f__law_tree : Addr} {fd__law_tree : FuncData} (F_law_tree : Fun K "_law_tree" "_law_tree" s__law_tree f__law_tree fd__law_tree) (g__law_tree : mg "_law_tree" = some (.ref f__law_tree)) (b__law_tree : Binds K fd__law_tree ["_law_deck_here", "_law_most"] []) (C__law_tree : Gk P w K mg base (L2.CX P w) 2 f__law_tree fd__law_tree ["_law_deck_here", "_law_most"] (spM K 2 F__law_tree)) {f__law_pushes : Addr} {fd__law_pushes : FuncData} (F_law_pushes : Fun K "_law_pushes" "_law_pushes" s__law_pushes f__law_pushes fd__law_pushes) (g__law_pushes : mg "_law_pushes" = some (.ref f__law_pushes)) (b__law_pushes : Binds K fd__law_pushes ["_law_deck_here", "_law_tree_here", "_law_most", "_law_late"] []) (C__law_pushes : Gk P w K mg base (L2.CX P w) 2 f__law_pushes fd__law_pushes ["_law_deck_here", "_law_tree_here", "_law_most", "_law_late"] (spM K 4 F__law_pushes)) {f__law_draw : Addr} {fd__law_draw : FuncData} (F_law_draw : Fun K "_law_draw" "_law_draw" s__law_draw f__law_draw fd__law_draw) (g__law_draw : mg "_law_draw" = some (.ref f__law_draw)) (b__law_draw : Binds K fd__law_draw ["_law_deck_here", "_law_limit"] []) (C__law_draw : Gk P w K mg base (L2.CX P w) 1 f__law_draw fd__law_draw ["_law_deck_here", "_law_limit"] (spM K 2 F__law_draw)) {f__law_far : Addr} {fd__law_far : FuncData} (F_law_far : Fun K "_law_far" "_law_far" s__law_far f__law_far fd__law_far) (g__law_far : mg "_law_far" = some (.ref f__law_far)) (b__law_far : Binds K fd__law_far ["_law_tree_here"] []) (C__law_far : Gk P w K mg base (L2.CX P w) 1 f__law_far fd__law_far ["_law_tree_here"] (spM K 1 F__law_far)) {f__law_twin : Addr} {fd__law_twin : FuncData} (F_law_twin : Fun K "_law_twin" "_law_twin" s__law_twin f__law_twin fd__law_twin) (g__law_twin : mg "_law_twin" = some (.ref f__law_twin)) (b__law_twin : Binds K fd__law_twin ["_law_rows"] []) (C__law_twin : Gk P w K mg base (L2.CX P w) 1 f__law_twin fd__law_twin ["_law_rows"] (spM K 1 F__law_twin)) {f__law_changed : Addr} {fd__law_changed : FuncData} (F_law_changed : Fun K "_law_changed" "_law_changed" s__law_changed f__law_changed fd__law_changed) (g__law_changed : mg "_law_changed" = some (.ref f__law_changed)) (b__law_changed : Binds K fd__law_changed ["_law_deck_here", "_law_tree_here", "_law_pushes_here"] []) (C__law_changed : Gk P w K mg base (L2.CX P w) 3 f__law_changed fd__law_changed ["_law_deck_here", "_law_tree_here", "_law_pushes_here"] (spM K 3 F__law_changed)) {f__law_due : Addr} {fd__law_due : FuncData} (F_law_due : Fun K "_law_due" "_law_due" s__law_due f__law_due fd__law_due) (g__law_due : mg "_law_due" = some (.ref f__law_due)) (b__law_due : Binds K fd__law_due ["_law_far_here", "_law_value"] []) (C__law_due : Gk P w K mg base (L2.CX P w) 4 f__law_due fd__law_due ["_law_far_here", "_law_value"] (spM K 2 F__law_due)) {f__law_told : Addr} {fd__law_told : FuncData} (F_law_told : Fun K "_law_told" "_law_told" s__law_told f__law_told fd__law_told) (g__law_told : mg "_law_told" = some (.ref f__law_told)) (b__law_told : Binds K fd__law_told ["_law_tree_here", "_law_value"] []) (C__law_told : Gk P w K mg base (L2.CX P w) 6 f__law_told fd__law_told ["_law_tree_here", "_law_value"] (spM K 2 F__law_told)) {f__law_same : Addr} {fd__law_same : FuncData} (F_law_same : Fun K "_law_same" "_law_same" s__law_same f__law_same fd__law_same) (g__law_same : mg "_law_same" = some (.ref f__law_same)) (b__law_same : Binds K fd__law_same ["_law_value", "_law_due_here"] []) (C__law_same : Gk P w K mg base (L2.CX P w) 1 f__law_same fd__law_same ["_law_value", "_law_due_here"] (spM K 2 F__law_same)) {f_Falls_init : Addr} {fd_Falls_init : FuncData} (M_Falls : Mk K CFalls f_Falls_init) (m_Falls : mg "Falls" = some (.ref CFalls)) (b_Falls_init : Binds K fd_Falls_init ["self", "tree", "table"] []) (C_Falls_init : Gk P w K mg base (L2.CX P w) 5 f_Falls_init fd_Falls_init ["self", "tree", "table"] (spF K 2 "Falls" ["_tree", "_table"] F_Falls_init)) : Gk P w K mg base (L2.CX P w) 7 f fd ["_law_script"] (spM K 1 F_law) := by
  refine gk_strip (k := 6) (l := 13) F sc_law rfl rfl G_law (fun cdv A below s H E hg hr => ?_)
  have nd : N_law.Nodup := sc_law.nd
  have hx : Passes (L2.CX P w) (bx P w K mg base N_law "law" s_law f cdv A below s H E) E := bx_pass
  have ho : PassesOwn (model P w) (bx P w K mg base N_law "law" s_law f cdv A below s H E).A (bx P w K mg base N_law "law" s_law f cdv A below s H E).env (bx P w K mg base N_law "law" s_law f cdv A below s H E).xe := bx_own
  exact (q_cons (s_set 1 nd (x_call1 C__law_deck hg hr g__law_deck F_law_deck.kp b__law_deck hx (a_cons (x_name 0) a_nil)))
  (q_cons (s_for ho rfl (i_rng rfl T.m_range x_int) (pg_nm 2 nd)
  (q_cons (s_set 3 nd (x_call1 C__law_tree hg hr g__law_tree F_law_tree.kp b__law_tree hx (a_cons (x_name 1) (a_cons (x_ix o_ix (x_lst false (a_cons x_int (a_cons x_int (a_cons x_int a_nil)))) (x_bin o_mod (x_name 2) x_int)) a_nil))))
  (q_cons (s_set 4 nd (x_call1 C__law_pushes hg hr g__law_pushes F_law_pushes.kp b__law_pushes hx (a_cons (x_name 1) (a_cons (x_name 3) (a_cons (x_ix o_ix (x_lst false (a_cons x_int (a_cons x_int a_nil))) (x_bin o_mod (x_name 2) x_int)) (a_cons (x_ix o_ix (x_lst false (a_cons x_int (a_cons x_int (a_cons (x_bin o_add (x_bin o_pow x_int x_int) x_int) a_nil)))) (x_call1 C__law_draw hg hr g__law_draw F_law_draw.kp b__law_draw hx (a_cons (x_name 1) (a_cons x_int a_nil)))) a_nil))))))
  (q_cons (s_par 7 5 rfl nd (a_cons (x_call1 C__law_far hg hr g__law_far F_law_far.kp b__law_far hx (a_cons (x_name 3) a_nil)) (a_cons (x_lst false (a_cons (x_name 4) (a_cons (x_call1 C__law_twin hg hr g__law_twin F_law_twin.kp b__law_twin hx (a_cons (x_name 4) a_nil)) (a_cons (x_name 4) (a_cons (x_tup a_nil) (a_cons (x_tup (a_cons (x_tup (a_cons x_int (a_cons x_int a_nil))) a_nil)) (a_cons (x_tup (a_cons (x_tup (a_cons x_int (a_cons x_bl a_nil))) a_nil)) (a_cons (x_tup (a_cons (x_tup (a_cons x_bl (a_cons x_int a_nil))) a_nil)) a_nil)))))))) a_nil)) (by first | rfl | with_unfolding_all rfl))
  (q_cons (s_set 5 nd (x_bin o_add (x_name 5) (x_lst false (a_cons (x_tup (a_cons (x_tup (a_cons x_int (a_cons x_int a_nil))) a_nil)) (a_cons (x_tup (a_cons (x_tup (a_cons x_int (a_cons x_bl a_nil))) a_nil)) (a_cons (x_tup (a_cons (x_tup (a_cons x_int (a_cons x_int a_nil))) a_nil)) (a_cons (x_bin o_mulA (x_tup (a_cons (x_tup (a_cons x_int (a_cons x_int a_nil))) a_nil)) x_int) (a_cons (x_bin o_mulA (x_tup (a_cons (x_tup (a_cons x_int (a_cons x_int a_nil))) a_nil)) x_int) (a_cons x_non a_nil)))))))))
  (q_cons (s_for ho rfl (i_seq (x_bin o_add (x_name 5) (x_lc false rfl nd (own := [("_law_k", 11)]) (i_rng rfl T.m_range x_int) (blkOk_by (N := N_law) (sc := defScope s_law) (by decide +kernel)) (fun _ _ _ _ _ => (pw_nm 11 nd (by decide))) (fun _ _ _ _ _ => ts_nil) (fun _ _ _ _ _ => (x_call1 C__law_changed hg hr g__law_changed F_law_changed.kp b__law_changed passL (a_cons (x_name 1) (a_cons (x_name 3) (a_cons (x_name 4) a_nil)))))))) (pg_nm 6 nd)
  (q_cons (s_par 9 10 rfl nd (a_cons (x_callB (b_repr hg (Room.units hr)) rfl T.m_repr (by decide +kernel) (a_cons (x_lst false (a_cons (x_name 3) (a_cons (x_name 6) a_nil))) a_nil)) (a_cons (x_call1 C__law_due hg hr g__law_due F_law_due.kp b__law_due hx (a_cons (x_name 7) (a_cons (x_name 6) a_nil))) a_nil)) (by first | rfl | with_unfolding_all rfl))
  (q_cons (s_setLc 8 false rfl nd (sw_true rfl rfl rfl (by decide +kernel)) (own := [("_law_again", 12)]) (i_rng rfl T.m_range x_int) (blkOk_by (N := N_law) (sc := defScope s_law) (by decide +kernel)) (fun _ _ _ _ _ => (pw_nm 12 nd (by decide))) (fun _ _ _ _ _ => ts_nil) (fun _ _ _ _ _ => (x_call1 C__law_told hg hr g__law_told F_law_told.kp b__law_told passL (a_cons (x_name 3) (a_cons (x_name 6) a_nil)))))
  (q_one (s_if (t_w (w_or (t_not (t_val (x_call1 C__law_same hg hr g__law_same F_law_same.kp b__law_same hx (a_cons (x_name 8) (a_cons (x_lst false (a_cons (x_name 10) (a_cons (x_name 10) a_nil))) a_nil))))) (w_or1 (t_cmp (o_ne (Room.units hr)) (x_callB (b_repr hg (Room.units hr)) rfl T.m_repr (by decide +kernel) (a_cons (x_lst false (a_cons (x_name 3) (a_cons (x_name 6) a_nil))) a_nil)) (x_name 9)))))
  (q_one (s_ret x_bl))
  q_nil)))))
  (q_one (s_if (t_not (t_val (x_call1 C__law_same hg hr g__law_same F_law_same.kp b__law_same hx (a_cons (x_call1 C__law_told hg hr g__law_told F_law_told.kp b__law_told hx (a_cons (x_name 3) (a_cons (x_makeF M_Falls C_Falls_init O_Falls hg (hr.mono (by decide)) m_Falls b_Falls_init hx (a_cons (x_name 3) (a_cons (x_bin o_mulA (x_tup (a_cons x_int a_nil)) (x_bin o_add (x_callB b_len rfl T.m_len PySem.boot_len (a_cons (x_name 3) a_nil)) x_int)) a_nil))) a_nil))) (a_cons (x_lst false (a_cons x_str (a_cons x_non a_nil))) a_nil)))))
  (q_one (s_ret x_bl))
  q_nil))))))))
  (q_one (s_ret x_bl))))
theorem all_mk {l : PySem.W.OpenLaw} {w : World} {K : PySem.W.Frag} {h : Heap} {mg : Str → Option Value} {fa : Addr} (X : K.In h) (G : h.Ns mainGlobals mg) (hfa : mg "law" = some (.ref fa))
    {f_law_deck : Addr} {od_law_deck an_law_deck : Option Addr} {sl_law_deck : Array (Option Value)} {oc_law_deck kV_law_deck dc_law_deck pm_law_deck cd_law_deck ct_law_deck : Value}
    (a_law_deck : PySem.W.nsIn K mainGlobals "_law_deck" = some (some (.ref f_law_deck))) (l_law_deck : K.lookup f_law_deck = some ⟨oc_law_deck, od_law_deck, .func (PySem.W.fnOf "_law_deck" "_law_deck" (defArgs s__law_deck) (defBody s__law_deck) (defScope s__law_deck) .none kV_law_deck dc_law_deck pm_law_deck an_law_deck cd_law_deck ct_law_deck), sl_law_deck⟩) (c_law_deck : PySem.W.codeIn K cd_law_deck "_law_deck" = true) (k_law_deck : PySem.W.keepIn K (.ref f_law_deck) = true)
    {f_law_draw : Addr} {od_law_draw an_law_draw : Option Addr} {sl_law_draw : Array (Option Value)} {oc_law_draw kV_law_draw dc_law_draw pm_law_draw cd_law_draw ct_law_draw : Value}
    (a_law_draw : PySem.W.nsIn K mainGlobals "_law_draw" = some (some (.ref f_law_draw))) (l_law_draw : K.lookup f_law_draw = some ⟨oc_law_draw, od_law_draw, .func (PySem.W.fnOf "_law_draw" "_law_draw" (defArgs s__law_draw) (defBody s__law_draw) (defScope s__law_draw) .none kV_law_draw dc_law_draw pm_law_draw an_law_draw cd_law_draw ct_law_draw), sl_law_draw⟩) (c_law_draw : PySem.W.codeIn K cd_law_draw "_law_draw" = true) (k_law_draw : PySem.W.keepIn K (.ref f_law_draw) = true)
    {f_law_tree : Addr} {od_law_tree an_law_tree : Option Addr} {sl_law_tree : Array (Option Value)} {oc_law_tree kV_law_tree dc_law_tree pm_law_tree cd_law_tree ct_law_tree : Value}
    (a_law_tree : PySem.W.nsIn K mainGlobals "_law_tree" = some (some (.ref f_law_tree))) (l_law_tree : K.lookup f_law_tree = some ⟨oc_law_tree, od_law_tree, .func (PySem.W.fnOf "_law_tree" "_law_tree" (defArgs s__law_tree) (defBody s__law_tree) (defScope s__law_tree) .none kV_law_tree dc_law_tree pm_law_tree an_law_tree cd_law_tree ct_law_tree), sl_law_tree⟩) (c_law_tree : PySem.W.codeIn K cd_law_tree "_law_tree" = true) (k_law_tree : PySem.W.keepIn K (.ref f_law_tree) = true)
    {f_law_pushes : Addr} {od_law_pushes an_law_pushes : Option Addr} {sl_law_pushes : Array (Option Value)} {oc_law_pushes kV_law_pushes dc_law_pushes pm_law_pushes cd_law_pushes ct_law_pushes : Value}
    (a_law_pushes : PySem.W.nsIn K mainGlobals "_law_pushes" = some (some (.ref f_law_pushes))) (l_law_pushes : K.lookup f_law_pushes = some ⟨oc_law_pushes, od_law_pushes, .func (PySem.W.fnOf "_law_pushes" "_law_pushes" (defArgs s__law_pushes) (defBody s__law_pushes) (defScope s__law_pushes) .none kV_law_pushes dc_law_pushes pm_law_pushes an_law_pushes cd_law_pushes ct_law_pushes), sl_law_pushes⟩) (c_law_pushes : PySem.W.codeIn K cd_law_pushes "_law_pushes" = true) (k_law_pushes : PySem.W.keepIn K (.ref f_law_pushes) = true)
    {f_law_far : Addr} {od_law_far an_law_far : Option Addr} {sl_law_far : Array (Option Value)} {oc_law_far kV_law_far dc_law_far pm_law_far cd_law_far ct_law_far : Value}
    (a_law_far : PySem.W.nsIn K mainGlobals "_law_far" = some (some (.ref f_law_far))) (l_law_far : K.lookup f_law_far = some ⟨oc_law_far, od_law_far, .func (PySem.W.fnOf "_law_far" "_law_far" (defArgs s__law_far) (defBody s__law_far) (defScope s__law_far) .none kV_law_far dc_law_far pm_law_far an_law_far cd_law_far ct_law_far), sl_law_far⟩) (c_law_far : PySem.W.codeIn K cd_law_far "_law_far" = true) (k_law_far : PySem.W.keepIn K (.ref f_law_far) = true)
    {f_law_twin : Addr} {od_law_twin an_law_twin : Option Addr} {sl_law_twin : Array (Option Value)} {oc_law_twin kV_law_twin dc_law_twin pm_law_twin cd_law_twin ct_law_twin : Value}
    (a_law_twin : PySem.W.nsIn K mainGlobals "_law_twin" = some (some (.ref f_law_twin))) (l_law_twin : K.lookup f_law_twin = some ⟨oc_law_twin, od_law_twin, .func (PySem.W.fnOf "_law_twin" "_law_twin" (defArgs s__law_twin) (defBody s__law_twin) (defScope s__law_twin) .none kV_law_twin dc_law_twin pm_law_twin an_law_twin cd_law_twin ct_law_twin), sl_law_twin⟩) (c_law_twin : PySem.W.codeIn K cd_law_twin "_law_twin" = true) (k_law_twin : PySem.W.keepIn K (.ref f_law_twin) = true)
    {f_law_odd : Addr} {od_law_odd an_law_odd : Option Addr} {sl_law_odd : Array (Option Value)} {oc_law_odd kV_law_odd dc_law_odd pm_law_odd cd_law_odd ct_law_odd : Value}
    (a_law_odd : PySem.W.nsIn K mainGlobals "_law_odd" = some (some (.ref f_law_odd))) (l_law_odd : K.lookup f_law_odd = some ⟨oc_law_odd, od_law_odd, .func (PySem.W.fnOf "_law_odd" "_law_odd" (defArgs s__law_odd) (defBody s__law_odd) (defScope s__law_odd) .none kV_law_odd dc_law_odd pm_law_odd an_law_odd cd_law_odd ct_law_odd), sl_law_odd⟩) (c_law_odd : PySem.W.codeIn K cd_law_odd "_law_odd" = true) (k_law_odd : PySem.W.keepIn K (.ref f_law_odd) = true)
    {f_law_changed : Addr} {od_law_changed an_law_changed : Option Addr} {sl_law_changed : Array (Option Value)} {oc_law_changed kV_law_changed dc_law_changed pm_law_changed cd_law_changed ct_law_changed : Value}
    (a_law_changed : PySem.W.nsIn K mainGlobals "_law_changed" = some (some (.ref f_law_changed))) (l_law_changed : K.lookup f_law_changed = some ⟨oc_law_changed, od_law_changed, .func (PySem.W.fnOf "_law_changed" "_law_changed" (defArgs s__law_changed) (defBody s__law_changed) (defScope s__law_changed) .none kV_law_changed dc_law_changed pm_law_changed an_law_changed cd_law_changed ct_law_changed), sl_law_changed⟩) (c_law_changed : PySem.W.codeIn K cd_law_changed "_law_changed" = true) (k_law_changed : PySem.W.keepIn K (.ref f_law_changed) = true)
    {f_law_is_number : Addr} {od_law_is_number an_law_is_number : Option Addr} {sl_law_is_number : Array (Option Value)} {oc_law_is_number kV_law_is_number dc_law_is_number pm_law_is_number cd_law_is_number ct_law_is_number : Value}
    (a_law_is_number : PySem.W.nsIn K mainGlobals "_law_is_number" = some (some (.ref f_law_is_number))) (l_law_is_number : K.lookup f_law_is_number = some ⟨oc_law_is_number, od_law_is_number, .func (PySem.W.fnOf "_law_is_number" "_law_is_number" (defArgs s__law_is_number) (defBody s__law_is_number) (defScope s__law_is_number) .none kV_law_is_number dc_law_is_number pm_law_is_number an_law_is_number cd_law_is_number ct_law_is_number), sl_law_is_number⟩) (c_law_is_number : PySem.W.codeIn K cd_law_is_number "_law_is_number" = true) (k_law_is_number : PySem.W.keepIn K (.ref f_law_is_number) = true)
    {f_law_falls : Addr} {od_law_falls an_law_falls : Option Addr} {sl_law_falls : Array (Option Value)} {oc_law_falls kV_law_falls dc_law_falls pm_law_falls cd_law_falls ct_law_falls : Value}
    (a_law_falls : PySem.W.nsIn K mainGlobals "_law_falls" = some (some (.ref f_law_falls))) (l_law_falls : K.lookup f_law_falls = some ⟨oc_law_falls, od_law_falls, .func (PySem.W.fnOf "_law_falls" "_law_falls" (defArgs s__law_falls) (defBody s__law_falls) (defScope s__law_falls) .none kV_law_falls dc_law_falls pm_law_falls an_law_falls cd_law_falls ct_law_falls), sl_law_falls⟩) (c_law_falls : PySem.W.codeIn K cd_law_falls "_law_falls" = true) (k_law_falls : PySem.W.keepIn K (.ref f_law_falls) = true)
    {f_law_due : Addr} {od_law_due an_law_due : Option Addr} {sl_law_due : Array (Option Value)} {oc_law_due kV_law_due dc_law_due pm_law_due cd_law_due ct_law_due : Value}
    (a_law_due : PySem.W.nsIn K mainGlobals "_law_due" = some (some (.ref f_law_due))) (l_law_due : K.lookup f_law_due = some ⟨oc_law_due, od_law_due, .func (PySem.W.fnOf "_law_due" "_law_due" (defArgs s__law_due) (defBody s__law_due) (defScope s__law_due) .none kV_law_due dc_law_due pm_law_due an_law_due cd_law_due ct_law_due), sl_law_due⟩) (c_law_due : PySem.W.codeIn K cd_law_due "_law_due" = true) (k_law_due : PySem.W.keepIn K (.ref f_law_due) = true)
    {fis_number : Addr} {odis_number anis_number : Option Addr} {slis_number : Array (Option Value)} {ocis_number kVis_number dcis_number pmis_number cdis_number ctis_number : Value}
    (ais_number : PySem.W.nsIn K mainGlobals "is_number" = some (some (.ref fis_number))) (lis_number : K.lookup fis_number = some ⟨ocis_number, odis_number, .func (PySem.W.fnOf "is_number" "is_number" (defArgs s_is_number) (defBody s_is_number) (defScope s_is_number) .none kVis_number dcis_number pmis_number anis_number cdis_number ctis_number), slis_number⟩) (cis_number : PySem.W.codeIn K cdis_number "is_number" = true) (kis_number : PySem.W.keepIn K (.ref fis_number) = true)
    {fis_number_from_to : Addr} {odis_number_from_to anis_number_from_to : Option Addr} {slis_number_from_to : Array (Option Value)} {ocis_number_from_to kVis_number_from_to dcis_number_from_to pmis_number_from_to cdis_number_from_to ctis_number_from_to : Value}
    (ais_number_from_to : PySem.W.nsIn K mainGlobals "is_number_from_to" = some (some (.ref fis_number_from_to))) (lis_number_from_to : K.lookup fis_number_from_to = some ⟨ocis_number_from_to, odis_number_from_to, .func (PySem.W.fnOf "is_number_from_to" "is_number_from_to" (defArgs s_is_number_from_to) (defBody s_is_number_from_to) (defScope s_is_number_from_to) .none kVis_number_from_to dcis_number_from_to pmis_number_from_to anis_number_from_to cdis_number_from_to ctis_number_from_to), slis_number_from_to⟩) (cis_number_from_to : PySem.W.codeIn K cdis_number_from_to "is_number_from_to" = true) (kis_number_from_to : PySem.W.keepIn K (.ref fis_number_from_to) = true)
    {fis_tick : Addr} {odis_tick anis_tick : Option Addr} {slis_tick : Array (Option Value)} {ocis_tick kVis_tick dcis_tick pmis_tick cdis_tick ctis_tick : Value}
    (ais_tick : PySem.W.nsIn K mainGlobals "is_tick" = some (some (.ref fis_tick))) (lis_tick : K.lookup fis_tick = some ⟨ocis_tick, odis_tick, .func (PySem.W.fnOf "is_tick" "is_tick" (defArgs s_is_tick) (defBody s_is_tick) (defScope s_is_tick) .none kVis_tick dcis_tick pmis_tick anis_tick cdis_tick ctis_tick), slis_tick⟩) (cis_tick : PySem.W.codeIn K cdis_tick "is_tick" = true) (kis_tick : PySem.W.keepIn K (.ref fis_tick) = true)
    {fis_mark : Addr} {odis_mark anis_mark : Option Addr} {slis_mark : Array (Option Value)} {ocis_mark kVis_mark dcis_mark pmis_mark cdis_mark ctis_mark : Value}
    (ais_mark : PySem.W.nsIn K mainGlobals "is_mark" = some (some (.ref fis_mark))) (lis_mark : K.lookup fis_mark = some ⟨ocis_mark, odis_mark, .func (PySem.W.fnOf "is_mark" "is_mark" (defArgs s_is_mark) (defBody s_is_mark) (defScope s_is_mark) .none kVis_mark dcis_mark pmis_mark anis_mark cdis_mark ctis_mark), slis_mark⟩) (cis_mark : PySem.W.codeIn K cdis_mark "is_mark" = true) (kis_mark : PySem.W.keepIn K (.ref fis_mark) = true)
    {fis_push : Addr} {odis_push anis_push : Option Addr} {slis_push : Array (Option Value)} {ocis_push kVis_push dcis_push pmis_push cdis_push ctis_push : Value}
    (ais_push : PySem.W.nsIn K mainGlobals "is_push" = some (some (.ref fis_push))) (lis_push : K.lookup fis_push = some ⟨ocis_push, odis_push, .func (PySem.W.fnOf "is_push" "is_push" (defArgs s_is_push) (defBody s_is_push) (defScope s_is_push) .none kVis_push dcis_push pmis_push anis_push cdis_push ctis_push), slis_push⟩) (cis_push : PySem.W.codeIn K cdis_push "is_push" = true) (kis_push : PySem.W.keepIn K (.ref fis_push) = true)
    {fdistances_of : Addr} {oddistances_of andistances_of : Option Addr} {sldistances_of : Array (Option Value)} {ocdistances_of kVdistances_of dcdistances_of pmdistances_of cddistances_of ctdistances_of : Value}
    (adistances_of : PySem.W.nsIn K mainGlobals "distances_of" = some (some (.ref fdistances_of))) (ldistances_of : K.lookup fdistances_of = some ⟨ocdistances_of, oddistances_of, .func (PySem.W.fnOf "distances_of" "distances_of" (defArgs s_distances_of) (defBody s_distances_of) (defScope s_distances_of) .none kVdistances_of dcdistances_of pmdistances_of andistances_of cddistances_of ctdistances_of), sldistances_of⟩) (cdistances_of : PySem.W.codeIn K cddistances_of "distances_of" = true) (kdistances_of : PySem.W.keepIn K (.ref fdistances_of) = true)
    {f_fall_from : Addr} {od_fall_from an_fall_from : Option Addr} {sl_fall_from : Array (Option Value)} {oc_fall_from kV_fall_from dc_fall_from pm_fall_from cd_fall_from ct_fall_from : Value}
    (a_fall_from : PySem.W.nsIn K mainGlobals "_fall_from" = some (some (.ref f_fall_from))) (l_fall_from : K.lookup f_fall_from = some ⟨oc_fall_from, od_fall_from, .func (PySem.W.fnOf "_fall_from" "_fall_from" (defArgs s__fall_from) (defBody s__fall_from) (defScope s__fall_from) .none kV_fall_from dc_fall_from pm_fall_from an_fall_from cd_fall_from ct_fall_from), sl_fall_from⟩) (c_fall_from : PySem.W.codeIn K cd_fall_from "_fall_from" = true) (k_fall_from : PySem.W.keepIn K (.ref f_fall_from) = true)
    {ffalls_of : Addr} {odfalls_of anfalls_of : Option Addr} {slfalls_of : Array (Option Value)} {ocfalls_of kVfalls_of dcfalls_of pmfalls_of cdfalls_of ctfalls_of : Value}
    (afalls_of : PySem.W.nsIn K mainGlobals "falls_of" = some (some (.ref ffalls_of))) (lfalls_of : K.lookup ffalls_of = some ⟨ocfalls_of, odfalls_of, .func (PySem.W.fnOf "falls_of" "falls_of" (defArgs s_falls_of) (defBody s_falls_of) (defScope s_falls_of) .none kVfalls_of dcfalls_of pmfalls_of anfalls_of cdfalls_of ctfalls_of), slfalls_of⟩) (cfalls_of : PySem.W.codeIn K cdfalls_of "falls_of" = true) (kfalls_of : PySem.W.keepIn K (.ref ffalls_of) = true)
    {f_law_told : Addr} {od_law_told an_law_told : Option Addr} {sl_law_told : Array (Option Value)} {oc_law_told kV_law_told dc_law_told pm_law_told cd_law_told ct_law_told : Value}
    (a_law_told : PySem.W.nsIn K mainGlobals "_law_told" = some (some (.ref f_law_told))) (l_law_told : K.lookup f_law_told = some ⟨oc_law_told, od_law_told, .func (PySem.W.fnOf "_law_told" "_law_told" (defArgs s__law_told) (defBody s__law_told) (defScope s__law_told) .none kV_law_told dc_law_told pm_law_told an_law_told cd_law_told ct_law_told), sl_law_told⟩) (c_law_told : PySem.W.codeIn K cd_law_told "_law_told" = true) (k_law_told : PySem.W.keepIn K (.ref f_law_told) = true)
    {f_law_same : Addr} {od_law_same an_law_same : Option Addr} {sl_law_same : Array (Option Value)} {oc_law_same kV_law_same dc_law_same pm_law_same cd_law_same ct_law_same : Value}
    (a_law_same : PySem.W.nsIn K mainGlobals "_law_same" = some (some (.ref f_law_same))) (l_law_same : K.lookup f_law_same = some ⟨oc_law_same, od_law_same, .func (PySem.W.fnOf "_law_same" "_law_same" (defArgs s__law_same) (defBody s__law_same) (defScope s__law_same) .none kV_law_same dc_law_same pm_law_same an_law_same cd_law_same ct_law_same), sl_law_same⟩) (c_law_same : PySem.W.codeIn K cd_law_same "_law_same" = true) (k_law_same : PySem.W.keepIn K (.ref f_law_same) = true)
    {fis_row : Addr} {odis_row anis_row : Option Addr} {slis_row : Array (Option Value)} {ocis_row kVis_row dcis_row pmis_row cdis_row ctis_row : Value}
    (ais_row : PySem.W.nsIn K mainGlobals "is_row" = some (some (.ref fis_row))) (lis_row : K.lookup fis_row = some ⟨ocis_row, odis_row, .func (PySem.W.fnOf "is_row" "is_row" (defArgs s_is_row) (defBody s_is_row) (defScope s_is_row) .none kVis_row dcis_row pmis_row anis_row cdis_row ctis_row), slis_row⟩) (cis_row : PySem.W.codeIn K cdis_row "is_row" = true) (kis_row : PySem.W.keepIn K (.ref fis_row) = true)
    {ftree_error : Addr} {odtree_error antree_error : Option Addr} {sltree_error : Array (Option Value)} {octree_error kVtree_error dctree_error pmtree_error cdtree_error cttree_error : Value}
    (atree_error : PySem.W.nsIn K mainGlobals "tree_error" = some (some (.ref ftree_error))) (ltree_error : K.lookup ftree_error = some ⟨octree_error, odtree_error, .func (PySem.W.fnOf "tree_error" "tree_error" (defArgs s_tree_error) (defBody s_tree_error) (defScope s_tree_error) .none kVtree_error dctree_error pmtree_error antree_error cdtree_error cttree_error), sltree_error⟩) (ctree_error : PySem.W.codeIn K cdtree_error "tree_error" = true) (ktree_error : PySem.W.keepIn K (.ref ftree_error) = true)
    {fis_table : Addr} {odis_table anis_table : Option Addr} {slis_table : Array (Option Value)} {ocis_table kVis_table dcis_table pmis_table cdis_table ctis_table : Value}
    (ais_table : PySem.W.nsIn K mainGlobals "is_table" = some (some (.ref fis_table))) (lis_table : K.lookup fis_table = some ⟨ocis_table, odis_table, .func (PySem.W.fnOf "is_table" "is_table" (defArgs s_is_table) (defBody s_is_table) (defScope s_is_table) .none kVis_table dcis_table pmis_table anis_table cdis_table ctis_table), slis_table⟩) (cis_table : PySem.W.codeIn K cdis_table "is_table" = true) (kis_table : PySem.W.keepIn K (.ref fis_table) = true)
    {fFalls_init : Addr} {odFalls_init anFalls_init : Option Addr} {slFalls_init : Array (Option Value)} {ocFalls_init kVFalls_init dcFalls_init pmFalls_init cdFalls_init ctFalls_init : Value}
    {CFalls_ : Addr} (o0Falls_init : PySem.W.nsIn K mainGlobals "Falls" = some (some (.ref CFalls_))) (aFalls_init : PySem.W.findIn K (.ref CFalls_) "__init__" = some (some (.ref fFalls_init))) (lFalls_init : K.lookup fFalls_init = some ⟨ocFalls_init, odFalls_init, .func (PySem.W.fnOf "__init__" "Falls.__init__" (defArgs s_Falls_init) (defBody s_Falls_init) (defScope s_Falls_init) .none kVFalls_init dcFalls_init pmFalls_init anFalls_init cdFalls_init ctFalls_init), slFalls_init⟩) (cFalls_init : PySem.W.codeIn K cdFalls_init "Falls.__init__" = true) (kFalls_init : PySem.W.keepIn K (.ref fFalls_init) = true)
    {flaw : Addr} {odlaw anlaw : Option Addr} {sllaw : Array (Option Value)} {oclaw kVlaw dclaw pmlaw cdlaw ctlaw : Value}
    (alaw : PySem.W.nsIn K mainGlobals "law" = some (some (.ref flaw))) (llaw : K.lookup flaw = some ⟨oclaw, odlaw, .func (PySem.W.fnOf "law" "law" (defArgs s_law) (defBody s_law) (defScope s_law) .none kVlaw dclaw pmlaw anlaw cdlaw ctlaw), sllaw⟩) (claw : PySem.W.codeIn K cdlaw "law" = true) (klaw : PySem.W.keepIn K (.ref flaw) = true)
    (z_ValueError : PySem.W.nsIn K mainGlobals "ValueError" = some none)
    (z_abs : PySem.W.nsIn K mainGlobals "abs" = some none)
    (z_all : PySem.W.nsIn K mainGlobals "all" = some none)
    (z_bool : PySem.W.nsIn K mainGlobals "bool" = some none)
    (z_enumerate : PySem.W.nsIn K mainGlobals "enumerate" = some none)
    (z_int : PySem.W.nsIn K mainGlobals "int" = some none)
    (z_isinstance : PySem.W.nsIn K mainGlobals "isinstance" = some none)
    (z_len : PySem.W.nsIn K mainGlobals "len" = some none)
    (z_list : PySem.W.nsIn K mainGlobals "list" = some none)
    (z_max : PySem.W.nsIn K mainGlobals "max" = some none)
    (z_min : PySem.W.nsIn K mainGlobals "min" = some none)
    (z_range : PySem.W.nsIn K mainGlobals "range" = some none)
    (z_repr : PySem.W.nsIn K mainGlobals "repr" = some none)
    (z_tuple : PySem.W.nsIn K mainGlobals "tuple" = some none)
    {t_LIMIT : Tok} (y_LIMIT : PySem.W.nsIn K mainGlobals "LIMIT" = some (some (.int 2000000000 t_LIMIT)))
    {t_MAX_LENGTH : Tok} (y_MAX_LENGTH : PySem.W.nsIn K mainGlobals "MAX_LENGTH" = some (some (.int 1000000 t_MAX_LENGTH)))
    {t_MAX_MARKS : Tok} (y_MAX_MARKS : PySem.W.nsIn K mainGlobals "MAX_MARKS" = some (some (.int 12 t_MAX_MARKS)))
    {t_MAX_PUSHES : Tok} (y_MAX_PUSHES : PySem.W.nsIn K mainGlobals "MAX_PUSHES" = some (some (.int 20 t_MAX_PUSHES)))
    {t_MAX_TICK : Tok} (y_MAX_TICK : PySem.W.nsIn K mainGlobals "MAX_TICK" = some (some (.int 1000000000 t_MAX_TICK)))
    {CF : Addr}
    (xF : PySem.W.nsIn K mainGlobals "FallError" = some (some (.ref CF)))
    {CBadPushes IBadPushes : Addr} {nmBadPushes qBadPushes : Str} {NBadPushes : Addr} {bsBadPushes : List Value} {snBadPushes : List Str} {subBadPushes : List Value} {abBadPushes : Bool} {colBadPushes : Option Bool} {ddBadPushes : Option Addr} {m0BadPushes m1BadPushes m2BadPushes m3BadPushes m5BadPushes : Option Value} {odBadPushes anBadPushes : Option Addr} {slBadPushes : Array (Option Value)} {ocBadPushes kVBadPushes dcBadPushes pmBadPushes cdBadPushes ctBadPushes : Value}
    (x0BadPushes : PySem.W.nsIn K mainGlobals "BadPushes" = some (some (.ref CBadPushes)))
    (x4BadPushes : K.lookup CBadPushes = some (PySem.excClassObj nmBadPushes qBadPushes CBadPushes NBadPushes bsBadPushes [.ref CF, .type "ValueError", .type "Exception", .type "BaseException", .type "object"] true snBadPushes subBadPushes abBadPushes colBadPushes ddBadPushes m0BadPushes m1BadPushes m2BadPushes m3BadPushes m5BadPushes "ValueError.__new__"))
    (x5BadPushes : PySem.W.findIn K (.ref CBadPushes) "__setattr__" = some (some (.builtin "object.__setattr__")))
    (x6BadPushes : PySem.W.findIn K (.ref CBadPushes) "__getattribute__" = some (some (.builtin "BaseException.__getattribute__")))
    (x7BadPushes : PySem.W.findIn K (.ref CBadPushes) "__getattr__" = some none)
    (x8BadPushes : PySem.W.findIn K (.ref CBadPushes) "index" = some none)
    (x9BadPushes : PySem.W.findIn K (.ref CBadPushes) "__init__" = some (some (.ref IBadPushes)))
    (w1BadPushes : PySem.W.findIn K (.ref CBadPushes) "__class__" = some (some (.builtin "object.__class__")))
    (w2BadPushes : PySem.W.specialIn K (.builtin "object.__class__") "__get__" = some (some (.builtin "getset_descriptor.__get__")))
    (w3BadPushes : PySem.W.takesIn K (.builtin "object.__class__") = some true)
    (w4BadPushes : PySem.W.mroIn K CBadPushes (.type "object") = some true)
    (w5BadPushes : PySem.W.typeIn K (.ref IBadPushes) = some (.type "function"))
    (w6BadPushes : PySem.W.keepIn K (.ref CBadPushes) = true)
    (w7BadPushes : PySem.W.subIn K (.ref CBadPushes) (.type "BaseException") = some true)
    (w8BadPushes : PySem.W.typeIn K (.ref CBadPushes) = some (.type "type"))
    (w9BadPushes : PySem.W.hasDictIn K CBadPushes = true)
    (v1BadPushes : K.lookup IBadPushes = some ⟨ocBadPushes, odBadPushes, .func (PySem.W.fnOf "__init__" "BadPushes.__init__" (Err_BadPushes.tlArgs ⟨22, 17, 22, 21⟩ ⟨22, 23, 22, 28⟩) (Err_BadPushes.tlBody ⟨23, 8, 23, 12⟩ ⟨23, 8, 23, 18⟩ ⟨23, 21, 23, 26⟩ ⟨23, 8, 23, 26⟩) Err_BadPushes.tlScope .none kVBadPushes dcBadPushes pmBadPushes anBadPushes cdBadPushes ctBadPushes), slBadPushes⟩)
    (v2BadPushes : PySem.W.codeIn K cdBadPushes "BadPushes.__init__" = true)
    {CBadTable IBadTable : Addr} {nmBadTable qBadTable : Str} {NBadTable : Addr} {bsBadTable : List Value} {snBadTable : List Str} {subBadTable : List Value} {abBadTable : Bool} {colBadTable : Option Bool} {ddBadTable : Option Addr} {m0BadTable m1BadTable m2BadTable m3BadTable m5BadTable : Option Value} {odBadTable anBadTable : Option Addr} {slBadTable : Array (Option Value)} {ocBadTable kVBadTable dcBadTable pmBadTable cdBadTable ctBadTable : Value}
    (x0BadTable : PySem.W.nsIn K mainGlobals "BadTable" = some (some (.ref CBadTable)))
    (x4BadTable : K.lookup CBadTable = some (PySem.excClassObj nmBadTable qBadTable CBadTable NBadTable bsBadTable [.ref CF, .type "ValueError", .type "Exception", .type "BaseException", .type "object"] true snBadTable subBadTable abBadTable colBadTable ddBadTable m0BadTable m1BadTable m2BadTable m3BadTable m5BadTable "ValueError.__new__"))
    (x5BadTable : PySem.W.findIn K (.ref CBadTable) "__setattr__" = some (some (.builtin "object.__setattr__")))
    (x6BadTable : PySem.W.findIn K (.ref CBadTable) "__getattribute__" = some (some (.builtin "BaseException.__getattribute__")))
    (x7BadTable : PySem.W.findIn K (.ref CBadTable) "__getattr__" = some none)
    (x8BadTable : PySem.W.findIn K (.ref CBadTable) "value" = some none)
    (x9BadTable : PySem.W.findIn K (.ref CBadTable) "__init__" = some (some (.ref IBadTable)))
    (w1BadTable : PySem.W.findIn K (.ref CBadTable) "__class__" = some (some (.builtin "object.__class__")))
    (w2BadTable : PySem.W.specialIn K (.builtin "object.__class__") "__get__" = some (some (.builtin "getset_descriptor.__get__")))
    (w3BadTable : PySem.W.takesIn K (.builtin "object.__class__") = some true)
    (w4BadTable : PySem.W.mroIn K CBadTable (.type "object") = some true)
    (w5BadTable : PySem.W.typeIn K (.ref IBadTable) = some (.type "function"))
    (w6BadTable : PySem.W.keepIn K (.ref CBadTable) = true)
    (w7BadTable : PySem.W.subIn K (.ref CBadTable) (.type "BaseException") = some true)
    (w8BadTable : PySem.W.typeIn K (.ref CBadTable) = some (.type "type"))
    (w9BadTable : PySem.W.hasDictIn K CBadTable = true)
    (v1BadTable : K.lookup IBadTable = some ⟨ocBadTable, odBadTable, .func (PySem.W.fnOf "__init__" "BadTable.__init__" (Err_BadTable.tlArgs ⟨38, 17, 38, 21⟩ ⟨38, 23, 38, 28⟩) (Err_BadTable.tlBody ⟨39, 8, 39, 12⟩ ⟨39, 8, 39, 18⟩ ⟨39, 21, 39, 26⟩ ⟨39, 8, 39, 26⟩) Err_BadTable.tlScope .none kVBadTable dcBadTable pmBadTable anBadTable cdBadTable ctBadTable), slBadTable⟩)
    (v2BadTable : PySem.W.codeIn K cdBadTable "BadTable.__init__" = true)
    {CBadTree IBadTree : Addr} {nmBadTree qBadTree : Str} {NBadTree : Addr} {bsBadTree : List Value} {snBadTree : List Str} {subBadTree : List Value} {abBadTree : Bool} {colBadTree : Option Bool} {ddBadTree : Option Addr} {m0BadTree m1BadTree m2BadTree m3BadTree m5BadTree : Option Value} {odBadTree anBadTree : Option Addr} {slBadTree : Array (Option Value)} {ocBadTree kVBadTree dcBadTree pmBadTree cdBadTree ctBadTree : Value}
    (x0BadTree : PySem.W.nsIn K mainGlobals "BadTree" = some (some (.ref CBadTree)))
    (x4BadTree : K.lookup CBadTree = some (PySem.excClassObj nmBadTree qBadTree CBadTree NBadTree bsBadTree [.ref CF, .type "ValueError", .type "Exception", .type "BaseException", .type "object"] true snBadTree subBadTree abBadTree colBadTree ddBadTree m0BadTree m1BadTree m2BadTree m3BadTree m5BadTree "ValueError.__new__"))
    (x5BadTree : PySem.W.findIn K (.ref CBadTree) "__setattr__" = some (some (.builtin "object.__setattr__")))
    (x6BadTree : PySem.W.findIn K (.ref CBadTree) "__getattribute__" = some (some (.builtin "BaseException.__getattribute__")))
    (x7BadTree : PySem.W.findIn K (.ref CBadTree) "__getattr__" = some none)
    (x8BadTree : PySem.W.findIn K (.ref CBadTree) "error" = some none)
    (x9BadTree : PySem.W.findIn K (.ref CBadTree) "__init__" = some (some (.ref IBadTree)))
    (w1BadTree : PySem.W.findIn K (.ref CBadTree) "__class__" = some (some (.builtin "object.__class__")))
    (w2BadTree : PySem.W.specialIn K (.builtin "object.__class__") "__get__" = some (some (.builtin "getset_descriptor.__get__")))
    (w3BadTree : PySem.W.takesIn K (.builtin "object.__class__") = some true)
    (w4BadTree : PySem.W.mroIn K CBadTree (.type "object") = some true)
    (w5BadTree : PySem.W.typeIn K (.ref IBadTree) = some (.type "function"))
    (w6BadTree : PySem.W.keepIn K (.ref CBadTree) = true)
    (w7BadTree : PySem.W.subIn K (.ref CBadTree) (.type "BaseException") = some true)
    (w8BadTree : PySem.W.typeIn K (.ref CBadTree) = some (.type "type"))
    (w9BadTree : PySem.W.hasDictIn K CBadTree = true)
    (v1BadTree : K.lookup IBadTree = some ⟨ocBadTree, odBadTree, .func (PySem.W.fnOf "__init__" "BadTree.__init__" (Err_BadTree.tlArgs ⟨26, 17, 26, 21⟩ ⟨26, 23, 26, 28⟩) (Err_BadTree.tlBody ⟨27, 8, 27, 12⟩ ⟨27, 8, 27, 18⟩ ⟨27, 21, 27, 26⟩ ⟨27, 8, 27, 26⟩) Err_BadTree.tlScope .none kVBadTree dcBadTree pmBadTree anBadTree cdBadTree ctBadTree), slBadTree⟩)
    (v2BadTree : PySem.W.codeIn K cdBadTree "BadTree.__init__" = true)
    {CBadEdit : Addr}
    (x0BadEdit : PySem.W.nsIn K mainGlobals "BadEdit" = some (some (.ref CBadEdit)))
    {CBadText : Addr}
    (x0BadText : PySem.W.nsIn K mainGlobals "BadText" = some (some (.ref CBadText)))
    (v3_FallError : PySem.W.subIn K (.ref CF) (.type "BaseException") = some true)
    (v4_FallError : PySem.W.hasDictIn K CF = true)
    (v5_FallError : PySem.W.typeIn K (.ref CF) = some (.type "type"))
    (v6_x_FallError_BadPushes : PySem.W.subIn K (.ref CBadPushes) (.ref CF) = some true)
    (q_BadPushes_BadEdit_BadText_BadTree : PySem.W.kitAny K (.ref CBadPushes) [.ref CBadEdit, .ref CBadText, .ref CBadTree] = some false)
    (q_BadPushes_ValueError : PySem.W.kitOne K (.ref CBadPushes) (.type "ValueError") = some true)
    {CFalls : Addr}
    (o0Falls : PySem.W.nsIn K mainGlobals "Falls" = some (some (.ref CFalls)))
    (o1Falls : PySem.W.plainGet K CFalls Str.empty = true)
    (o2Falls : PySem.W.hasDictIn K CFalls = true)
    (o3Falls : PySem.W.plainOver K CFalls = true)
    (o4Falls : PySem.W.findIn K (.ref CFalls) "__setattr__" = some (some (.builtin "object.__setattr__")))
    (o5Falls : PySem.W.findIn K (.ref CFalls) "__class__" = some (some (.builtin "object.__class__")))
    (o6Falls : PySem.W.specialIn K (.builtin "object.__class__") "__get__" = some (some (.builtin "getset_descriptor.__get__")))
    (o7Falls : PySem.W.takesIn K (.builtin "object.__class__") = some true)
    (o8Falls : PySem.W.mroIn K CFalls (.type "object") = some true)
    (o9intFalls : PySem.W.kitOne K (.ref CFalls) (.type "int") = some false)
    (o9boolFalls : PySem.W.kitOne K (.ref CFalls) (.type "bool") = some false)
    (o9tupleFalls : PySem.W.kitOne K (.ref CFalls) (.type "tuple") = some false)
    (o9listFalls : PySem.W.kitOne K (.ref CFalls) (.type "list") = some false)
    (o9strFalls : PySem.W.kitOne K (.ref CFalls) (.type "str") = some false)
    (o9dictFalls : PySem.W.kitOne K (.ref CFalls) (.type "dict") = some false)
    (oF_treeFalls : PySem.W.findIn K (.ref CFalls) "_tree" = some none)
    (oF_tableFalls : PySem.W.findIn K (.ref CFalls) "_table" = some none)
    (p0Falls : PySem.W.makesIn K CFalls = true)
    (p1Falls : PySem.W.findIn K (.ref CFalls) "__init__" = some (some (.ref fFalls_init)))
    (p2Falls : PySem.W.isFn K (.ref fFalls_init) = true)
    (p3Falls : PySem.W.keepIn K (.ref CFalls) = true)
    : ∃ fd : FuncData, (∀ (s : Shared) (v : Value), BindsTo s fd ⟨[v], []⟩ [("_law_script", v)]) ∧ ∀ base : Heap, K.In base → base.Ns mainGlobals mg → Gk l.prog w K mg base (L2.CX l.prog w) 7 fa fd ["_law_script"] (spLaw F_law 63 K) := by
  have e := hfa.symm.trans (PySem.W.mg_of X G alaw)
  cases e
  have T : Top mg := ⟨PySem.W.mg_none_of X G z_ValueError, PySem.W.mg_none_of X G z_abs, PySem.W.mg_none_of X G z_all, PySem.W.mg_none_of X G z_bool, PySem.W.mg_none_of X G z_enumerate, PySem.W.mg_none_of X G z_int, PySem.W.mg_none_of X G z_isinstance, PySem.W.mg_none_of X G z_len, PySem.W.mg_none_of X G z_list, PySem.W.mg_none_of X G z_max, PySem.W.mg_none_of X G z_min, PySem.W.mg_none_of X G z_range, PySem.W.mg_none_of X G z_repr, PySem.W.mg_none_of X G z_tuple, ⟨_, PySem.W.mg_of X G y_LIMIT⟩, ⟨_, PySem.W.mg_of X G y_MAX_LENGTH⟩, ⟨_, PySem.W.mg_of X G y_MAX_MARKS⟩, ⟨_, PySem.W.mg_of X G y_MAX_PUSHES⟩, ⟨_, PySem.W.mg_of X G y_MAX_TICK⟩⟩
  have F_law_deck := fun_mk (x := "_law_deck") (qual := "_law_deck") (st := s__law_deck) l_law_deck c_law_deck k_law_deck
  have b_law_deck := F_law_deck.binds (ps := ["_law_script"]) fun _ _ _ _ _ _ us hl => match us, hl with | [_], _ => rfl
  have g_law_deck := PySem.W.mg_of X G a_law_deck
  have F_law_draw := fun_mk (x := "_law_draw") (qual := "_law_draw") (st := s__law_draw) l_law_draw c_law_draw k_law_draw
  have b_law_draw := F_law_draw.binds (ps := ["_law_deck_here", "_law_limit"]) fun _ _ _ _ _ _ us hl => match us, hl with | [_, _], _ => rfl
  have g_law_draw := PySem.W.mg_of X G a_law_draw
  have F_law_tree := fun_mk (x := "_law_tree") (qual := "_law_tree") (st := s__law_tree) l_law_tree c_law_tree k_law_tree
  have b_law_tree := F_law_tree.binds (ps := ["_law_deck_here", "_law_most"]) fun _ _ _ _ _ _ us hl => match us, hl with | [_, _], _ => rfl
  have g_law_tree := PySem.W.mg_of X G a_law_tree
  have F_law_pushes := fun_mk (x := "_law_pushes") (qual := "_law_pushes") (st := s__law_pushes) l_law_pushes c_law_pushes k_law_pushes
  have b_law_pushes := F_law_pushes.binds (ps := ["_law_deck_here", "_law_tree_here", "_law_most", "_law_late"]) fun _ _ _ _ _ _ us hl => match us, hl with | [_, _, _, _], _ => rfl
  have g_law_pushes := PySem.W.mg_of X G a_law_pushes
  have F_law_far := fun_mk (x := "_law_far") (qual := "_law_far") (st := s__law_far) l_law_far c_law_far k_law_far
  have b_law_far := F_law_far.binds (ps := ["_law_tree_here"]) fun _ _ _ _ _ _ us hl => match us, hl with | [_], _ => rfl
  have g_law_far := PySem.W.mg_of X G a_law_far
  have F_law_twin := fun_mk (x := "_law_twin") (qual := "_law_twin") (st := s__law_twin) l_law_twin c_law_twin k_law_twin
  have b_law_twin := F_law_twin.binds (ps := ["_law_rows"]) fun _ _ _ _ _ _ us hl => match us, hl with | [_], _ => rfl
  have g_law_twin := PySem.W.mg_of X G a_law_twin
  have F_law_odd := fun_mk (x := "_law_odd") (qual := "_law_odd") (st := s__law_odd) l_law_odd c_law_odd k_law_odd
  have b_law_odd := F_law_odd.binds (ps := ["_law_deck_here"]) fun _ _ _ _ _ _ us hl => match us, hl with | [_], _ => rfl
  have g_law_odd := PySem.W.mg_of X G a_law_odd
  have F_law_changed := fun_mk (x := "_law_changed") (qual := "_law_changed") (st := s__law_changed) l_law_changed c_law_changed k_law_changed
  have b_law_changed := F_law_changed.binds (ps := ["_law_deck_here", "_law_tree_here", "_law_pushes_here"]) fun _ _ _ _ _ _ us hl => match us, hl with | [_, _, _], _ => rfl
  have g_law_changed := PySem.W.mg_of X G a_law_changed
  have F_law_is_number := fun_mk (x := "_law_is_number") (qual := "_law_is_number") (st := s__law_is_number) l_law_is_number c_law_is_number k_law_is_number
  have b_law_is_number := F_law_is_number.binds (ps := ["_law_value", "_law_low", "_law_high"]) fun _ _ _ _ _ _ us hl => match us, hl with | [_, _, _], _ => rfl
  have g_law_is_number := PySem.W.mg_of X G a_law_is_number
  have F_law_falls := fun_mk (x := "_law_falls") (qual := "_law_falls") (st := s__law_falls) l_law_falls c_law_falls k_law_falls
  have b_law_falls := F_law_falls.binds (ps := ["_law_far_here", "_law_pushes_here"]) fun _ _ _ _ _ _ us hl => match us, hl with | [_, _], _ => rfl
  have g_law_falls := PySem.W.mg_of X G a_law_falls
  have F_law_due := fun_mk (x := "_law_due") (qual := "_law_due") (st := s__law_due) l_law_due c_law_due k_law_due
  have b_law_due := F_law_due.binds (ps := ["_law_far_here", "_law_value"]) fun _ _ _ _ _ _ us hl => match us, hl with | [_, _], _ => rfl
  have g_law_due := PySem.W.mg_of X G a_law_due
  have Fis_number := fun_mk (x := "is_number") (qual := "is_number") (st := s_is_number) lis_number cis_number kis_number
  have bis_number := Fis_number.binds (ps := ["value"]) fun _ _ _ _ _ _ us hl => match us, hl with | [_], _ => rfl
  have gis_number := PySem.W.mg_of X G ais_number
  have Fis_number_from_to := fun_mk (x := "is_number_from_to") (qual := "is_number_from_to") (st := s_is_number_from_to) lis_number_from_to cis_number_from_to kis_number_from_to
  have bis_number_from_to := Fis_number_from_to.binds (ps := ["value", "least", "most"]) fun _ _ _ _ _ _ us hl => match us, hl with | [_, _, _], _ => rfl
  have gis_number_from_to := PySem.W.mg_of X G ais_number_from_to
  have Fis_tick := fun_mk (x := "is_tick") (qual := "is_tick") (st := s_is_tick) lis_tick cis_tick kis_tick
  have bis_tick := Fis_tick.binds (ps := ["value"]) fun _ _ _ _ _ _ us hl => match us, hl with | [_], _ => rfl
  have gis_tick := PySem.W.mg_of X G ais_tick
  have Fis_mark := fun_mk (x := "is_mark") (qual := "is_mark") (st := s_is_mark) lis_mark cis_mark kis_mark
  have bis_mark := Fis_mark.binds (ps := ["tree", "value"]) fun _ _ _ _ _ _ us hl => match us, hl with | [_, _], _ => rfl
  have gis_mark := PySem.W.mg_of X G ais_mark
  have Fis_push := fun_mk (x := "is_push") (qual := "is_push") (st := s_is_push) lis_push cis_push kis_push
  have bis_push := Fis_push.binds (ps := ["tree", "value"]) fun _ _ _ _ _ _ us hl => match us, hl with | [_, _], _ => rfl
  have gis_push := PySem.W.mg_of X G ais_push
  have Fdistances_of := fun_mk (x := "distances_of") (qual := "distances_of") (st := s_distances_of) ldistances_of cdistances_of kdistances_of
  have bdistances_of := Fdistances_of.binds (ps := ["tree"]) fun _ _ _ _ _ _ us hl => match us, hl with | [_], _ => rfl
  have gdistances_of := PySem.W.mg_of X G adistances_of
  have F_fall_from := fun_mk (x := "_fall_from") (qual := "_fall_from") (st := s__fall_from) l_fall_from c_fall_from k_fall_from
  have b_fall_from := F_fall_from.binds (ps := ["ways", "pushes"]) fun _ _ _ _ _ _ us hl => match us, hl with | [_, _], _ => rfl
  have g_fall_from := PySem.W.mg_of X G a_fall_from
  have Ffalls_of := fun_mk (x := "falls_of") (qual := "falls_of") (st := s_falls_of) lfalls_of cfalls_of kfalls_of
  have bfalls_of := Ffalls_of.binds (ps := ["tree", "value"]) fun _ _ _ _ _ _ us hl => match us, hl with | [_, _], _ => rfl
  have gfalls_of := PySem.W.mg_of X G afalls_of
  have F_law_told := fun_mk (x := "_law_told") (qual := "_law_told") (st := s__law_told) l_law_told c_law_told k_law_told
  have b_law_told := F_law_told.binds (ps := ["_law_tree_here", "_law_value"]) fun _ _ _ _ _ _ us hl => match us, hl with | [_, _], _ => rfl
  have g_law_told := PySem.W.mg_of X G a_law_told
  have F_law_same := fun_mk (x := "_law_same") (qual := "_law_same") (st := s__law_same) l_law_same c_law_same k_law_same
  have b_law_same := F_law_same.binds (ps := ["_law_value", "_law_due_here"]) fun _ _ _ _ _ _ us hl => match us, hl with | [_, _], _ => rfl
  have g_law_same := PySem.W.mg_of X G a_law_same
  have Fis_row := fun_mk (x := "is_row") (qual := "is_row") (st := s_is_row) lis_row cis_row kis_row
  have bis_row := Fis_row.binds (ps := ["row", "index"]) fun _ _ _ _ _ _ us hl => match us, hl with | [_, _], _ => rfl
  have gis_row := PySem.W.mg_of X G ais_row
  have Ftree_error := fun_mk (x := "tree_error") (qual := "tree_error") (st := s_tree_error) ltree_error ctree_error ktree_error
  have btree_error := Ftree_error.binds (ps := ["value"]) fun _ _ _ _ _ _ us hl => match us, hl with | [_], _ => rfl
  have gtree_error := PySem.W.mg_of X G atree_error
  have Fis_table := fun_mk (x := "is_table") (qual := "is_table") (st := s_is_table) lis_table cis_table kis_table
  have bis_table := Fis_table.binds (ps := ["tree", "value"]) fun _ _ _ _ _ _ us hl => match us, hl with | [_, _], _ => rfl
  have gis_table := PySem.W.mg_of X G ais_table
  have FFalls_init := fun_mk (x := "__init__") (qual := "Falls.__init__") (st := s_Falls_init) lFalls_init cFalls_init kFalls_init
  have bFalls_init := FFalls_init.binds (ps := ["self", "tree", "table"]) fun _ _ _ _ _ _ us hl => match us, hl with | [_, _, _], _ => rfl
  have Flaw := fun_mk (x := "law") (qual := "law") (st := s_law) llaw claw klaw
  have Z_BadPushes : Err_BadPushes.TL K mg CBadPushes IBadPushes := ⟨x0BadPushes, PySem.W.mg_of X G x0BadPushes, ⟨nmBadPushes, qBadPushes, NBadPushes, bsBadPushes, _, snBadPushes, subBadPushes, abBadPushes, colBadPushes, ddBadPushes, m0BadPushes, m1BadPushes, m2BadPushes, m3BadPushes, m5BadPushes, x4BadPushes, rfl⟩, x5BadPushes, x6BadPushes, x7BadPushes, x8BadPushes, x9BadPushes, w1BadPushes, w2BadPushes, w3BadPushes, w4BadPushes, w5BadPushes, w6BadPushes, w7BadPushes, w8BadPushes, w9BadPushes, ⟨_, _, _, _, _, _, _, _, _, _, _, _, _, _, _, v1BadPushes, v2BadPushes⟩⟩
  have Z_BadTable : Err_BadTable.TL K mg CBadTable IBadTable := ⟨x0BadTable, PySem.W.mg_of X G x0BadTable, ⟨nmBadTable, qBadTable, NBadTable, bsBadTable, _, snBadTable, subBadTable, abBadTable, colBadTable, ddBadTable, m0BadTable, m1BadTable, m2BadTable, m3BadTable, m5BadTable, x4BadTable, rfl⟩, x5BadTable, x6BadTable, x7BadTable, x8BadTable, x9BadTable, w1BadTable, w2BadTable, w3BadTable, w4BadTable, w5BadTable, w6BadTable, w7BadTable, w8BadTable, w9BadTable, ⟨_, _, _, _, _, _, _, _, _, _, _, _, _, _, _, v1BadTable, v2BadTable⟩⟩
  have Z_BadTree : Err_BadTree.TL K mg CBadTree IBadTree := ⟨x0BadTree, PySem.W.mg_of X G x0BadTree, ⟨nmBadTree, qBadTree, NBadTree, bsBadTree, _, snBadTree, subBadTree, abBadTree, colBadTree, ddBadTree, m0BadTree, m1BadTree, m2BadTree, m3BadTree, m5BadTree, x4BadTree, rfl⟩, x5BadTree, x6BadTree, x7BadTree, x8BadTree, x9BadTree, w1BadTree, w2BadTree, w3BadTree, w4BadTree, w5BadTree, w6BadTree, w7BadTree, w8BadTree, w9BadTree, ⟨_, _, _, _, _, _, _, _, _, _, _, _, _, _, _, v1BadTree, v2BadTree⟩⟩
  have e_BadEdit := PySem.W.mg_of X G x0BadEdit
  have e_BadText := PySem.W.mg_of X G x0BadText
  have e_BadTree := PySem.W.mg_of X G x0BadTree
  have e_FallError := PySem.W.mg_of X G xF
  have x_FallError_BadPushes := PySem.W.exm_ref v3_FallError v4_FallError v5_FallError v6_x_FallError_BadPushes
  have O_Falls : ObC K CFalls "Falls" ["_tree", "_table"] := by
    refine ⟨o0Falls, ⟨o1Falls, o2Falls, o3Falls, o4Falls⟩, o5Falls, o6Falls, o7Falls, o8Falls, fun n hn => ?_, fun n hn => ?_⟩
    · simp only [kitTys, List.mem_cons, List.not_mem_nil, or_false] at hn
      rcases hn with rfl | rfl | rfl | rfl | rfl | rfl
      · exact o9intFalls
      · exact o9boolFalls
      · exact o9tupleFalls
      · exact o9listFalls
      · exact o9strFalls
      · exact o9dictFalls
    · simp only [List.mem_cons, List.not_mem_nil, or_false] at hn
      rcases hn with rfl | rfl
      · exact oF_treeFalls
      · exact oF_tableFalls
  have M_Falls : Mk K CFalls fFalls_init := ⟨p0Falls, p1Falls, p2Falls, p3Falls⟩
  have m_Falls := PySem.W.mg_of X G o0Falls
  refine ⟨PySem.W.fnOf "law" "law" (defArgs s_law) (defBody s_law) (defScope s_law) .none kVlaw dclaw pmlaw anlaw cdlaw ctlaw, fun s v => .of_eq rfl, fun base _ _ => ?_⟩
  have C_law_deck := ok__law_deck (P := l.prog) (w := w) (base := base) T F_law_deck   
  have C_law_draw := ok__law_draw (P := l.prog) (w := w) (base := base) T F_law_draw   
  have C_law_tree := ok__law_tree (P := l.prog) (w := w) (base := base) T F_law_tree   F_law_draw g_law_draw b_law_draw C_law_draw
  have C_law_pushes := ok__law_pushes (P := l.prog) (w := w) (base := base) T F_law_pushes   F_law_draw g_law_draw b_law_draw C_law_draw
  have C_law_far := ok__law_far (P := l.prog) (w := w) (base := base) T F_law_far   
  have C_law_twin := ok__law_twin (P := l.prog) (w := w) (base := base) T F_law_twin   
  have C_law_odd := ok__law_odd (P := l.prog) (w := w) (base := base) T F_law_odd   F_law_draw g_law_draw b_law_draw C_law_draw
  have C_law_changed := ok__law_changed (P := l.prog) (w := w) (base := base) T F_law_changed   F_law_draw g_law_draw b_law_draw C_law_draw F_law_odd g_law_odd b_law_odd C_law_odd
  have C_law_is_number := ok__law_is_number (P := l.prog) (w := w) (base := base) T F_law_is_number   
  have C_law_falls := ok__law_falls (P := l.prog) (w := w) (base := base) T F_law_falls  Z_BadPushes e_BadEdit e_BadText e_BadTree x_FallError_BadPushes q_BadPushes_BadEdit_BadText_BadTree q_BadPushes_ValueError 
  have C_law_due := ok__law_due (P := l.prog) (w := w) (base := base) T F_law_due   F_law_is_number g_law_is_number b_law_is_number C_law_is_number F_law_falls g_law_falls b_law_falls C_law_falls
  have Cis_number := ok_is_number (P := l.prog) (w := w) (base := base) T Fis_number   
  have Cis_number_from_to := ok_is_number_from_to (P := l.prog) (w := w) (base := base) T Fis_number_from_to   Fis_number gis_number bis_number Cis_number
  have Cis_tick := ok_is_tick (P := l.prog) (w := w) (base := base) T Fis_tick   Fis_number_from_to gis_number_from_to bis_number_from_to Cis_number_from_to
  have Cis_mark := ok_is_mark (P := l.prog) (w := w) (base := base) T Fis_mark   Fis_number_from_to gis_number_from_to bis_number_from_to Cis_number_from_to
  have Cis_push := ok_is_push (P := l.prog) (w := w) (base := base) T Fis_push   Fis_tick gis_tick bis_tick Cis_tick Fis_mark gis_mark bis_mark Cis_mark
  have Cdistances_of := ok_distances_of (P := l.prog) (w := w) (base := base) T Fdistances_of   
  have C_fall_from := ok__fall_from (P := l.prog) (w := w) (base := base) T F_fall_from   
  have Cfalls_of := ok_falls_of (P := l.prog) (w := w) (base := base) T Ffalls_of  Z_BadPushes Fis_push gis_push bis_push Cis_push Fdistances_of gdistances_of bdistances_of Cdistances_of F_fall_from g_fall_from b_fall_from C_fall_from
  have C_law_told := ok__law_told (P := l.prog) (w := w) (base := base) T F_law_told  Z_BadPushes e_BadEdit e_BadText e_BadTree e_FallError x_FallError_BadPushes q_BadPushes_BadEdit_BadText_BadTree q_BadPushes_ValueError Ffalls_of gfalls_of bfalls_of Cfalls_of
  have C_law_same := ok__law_same (P := l.prog) (w := w) (base := base) T F_law_same   
  have Cis_row := ok_is_row (P := l.prog) (w := w) (base := base) T Fis_row   Fis_number_from_to gis_number_from_to bis_number_from_to Cis_number_from_to
  have Ctree_error := ok_tree_error (P := l.prog) (w := w) (base := base) T Ftree_error   Fis_row gis_row bis_row Cis_row
  have Cis_table := ok_is_table (P := l.prog) (w := w) (base := base) T Fis_table   Fis_number_from_to gis_number_from_to bis_number_from_to Cis_number_from_to
  have CFalls_init := ok_Falls_init (P := l.prog) (w := w) (base := base) T FFalls_init  Z_BadTable Z_BadTree Ftree_error gtree_error btree_error Ctree_error Fis_table gis_table bis_table Cis_table
  have Claw := ok_law (P := l.prog) (w := w) (base := base) T Flaw   O_Falls F_law_deck g_law_deck b_law_deck C_law_deck F_law_tree g_law_tree b_law_tree C_law_tree F_law_pushes g_law_pushes b_law_pushes C_law_pushes F_law_draw g_law_draw b_law_draw C_law_draw F_law_far g_law_far b_law_far C_law_far F_law_twin g_law_twin b_law_twin C_law_twin F_law_changed g_law_changed b_law_changed C_law_changed F_law_due g_law_due b_law_due C_law_due F_law_told g_law_told b_law_told C_law_told F_law_same g_law_same b_law_same C_law_same M_Falls m_Falls bFalls_init CFalls_init
  exact Claw
end Pf
open PySem PySem.W PyProof.Rows
set_option maxHeartbeats 0 in
theorem PySem.Challenge.cw_marktopples_k03_falls_of_pushes_holds : PySem.Challenge.rw_marktopples_k03_falls_of_pushes.Holds := by
  w_on; o_law; k_head; (case hw => w_witness2)
  k_fill
  refine Pf.law_walk (l := PySem.Challenge.rw_marktopples_k03_falls_of_pushes) (n := 63) (k := 7) (x := "_law_script") (sp := Pf.spLaw Pf.F_law 63) rfl (by decide) rfl ⟨rfl, by decide, by decide⟩ (fun w h Y => PySem.W.kIn_of Y) ?F (Pf.spLaw_of Pf.law_true)
  case F =>
    intro w mg fa h KX G hmg
    refine' Pf.all_mk KX G hmg ?a_law_deck ?l_law_deck ?c_law_deck ?k_law_deck ?a_law_draw ?l_law_draw ?c_law_draw ?k_law_draw ?a_law_tree ?l_law_tree ?c_law_tree ?k_law_tree ?a_law_pushes ?l_law_pushes ?c_law_pushes ?k_law_pushes ?a_law_far ?l_law_far ?c_law_far ?k_law_far ?a_law_twin ?l_law_twin ?c_law_twin ?k_law_twin ?a_law_odd ?l_law_odd ?c_law_odd ?k_law_odd ?a_law_changed ?l_law_changed ?c_law_changed ?k_law_changed ?a_law_is_number ?l_law_is_number ?c_law_is_number ?k_law_is_number ?a_law_falls ?l_law_falls ?c_law_falls ?k_law_falls ?a_law_due ?l_law_due ?c_law_due ?k_law_due ?ais_number ?lis_number ?cis_number ?kis_number ?ais_number_from_to ?lis_number_from_to ?cis_number_from_to ?kis_number_from_to ?ais_tick ?lis_tick ?cis_tick ?kis_tick ?ais_mark ?lis_mark ?cis_mark ?kis_mark ?ais_push ?lis_push ?cis_push ?kis_push ?adistances_of ?ldistances_of ?cdistances_of ?kdistances_of ?a_fall_from ?l_fall_from ?c_fall_from ?k_fall_from ?afalls_of ?lfalls_of ?cfalls_of ?kfalls_of ?a_law_told ?l_law_told ?c_law_told ?k_law_told ?a_law_same ?l_law_same ?c_law_same ?k_law_same ?ais_row ?lis_row ?cis_row ?kis_row ?atree_error ?ltree_error ?ctree_error ?ktree_error ?ais_table ?lis_table ?cis_table ?kis_table ?o0Falls_init ?aFalls_init ?lFalls_init ?cFalls_init ?kFalls_init ?alaw ?llaw ?claw ?klaw ?z_ValueError ?z_abs ?z_all ?z_bool ?z_enumerate ?z_int ?z_isinstance ?z_len ?z_list ?z_max ?z_min ?z_range ?z_repr ?z_tuple ?y_LIMIT ?y_MAX_LENGTH ?y_MAX_MARKS ?y_MAX_PUSHES ?y_MAX_TICK ?xF ?x0BadPushes ?x4BadPushes ?x5BadPushes ?x6BadPushes ?x7BadPushes ?x8BadPushes ?x9BadPushes ?w1BadPushes ?w2BadPushes ?w3BadPushes ?w4BadPushes ?w5BadPushes ?w6BadPushes ?w7BadPushes ?w8BadPushes ?w9BadPushes ?v1BadPushes ?v2BadPushes ?x0BadTable ?x4BadTable ?x5BadTable ?x6BadTable ?x7BadTable ?x8BadTable ?x9BadTable ?w1BadTable ?w2BadTable ?w3BadTable ?w4BadTable ?w5BadTable ?w6BadTable ?w7BadTable ?w8BadTable ?w9BadTable ?v1BadTable ?v2BadTable ?x0BadTree ?x4BadTree ?x5BadTree ?x6BadTree ?x7BadTree ?x8BadTree ?x9BadTree ?w1BadTree ?w2BadTree ?w3BadTree ?w4BadTree ?w5BadTree ?w6BadTree ?w7BadTree ?w8BadTree ?w9BadTree ?v1BadTree ?v2BadTree ?x0BadEdit ?x0BadText ?v3_FallError ?v4_FallError ?v5_FallError ?v6_x_FallError_BadPushes ?q_BadPushes_BadEdit_BadText_BadTree ?q_BadPushes_ValueError ?o0Falls ?o1Falls ?o2Falls ?o3Falls ?o4Falls ?o5Falls ?o6Falls ?o7Falls ?o8Falls ?o9intFalls ?o9boolFalls ?o9tupleFalls ?o9listFalls ?o9strFalls ?o9dictFalls ?oF_treeFalls ?oF_tableFalls ?p0Falls ?p1Falls ?p2Falls ?p3Falls
    (case a_law_deck => k_is); (case l_law_deck => k_is); (case c_law_deck => k_is); (case k_law_deck => k_is); (case a_law_draw => k_is); (case l_law_draw => k_is); (case c_law_draw => k_is); (case k_law_draw => k_is); (case a_law_tree => k_is); (case l_law_tree => k_is); (case c_law_tree => k_is); (case k_law_tree => k_is); (case a_law_pushes => k_is); (case l_law_pushes => k_is); (case c_law_pushes => k_is); (case k_law_pushes => k_is); (case a_law_far => k_is); (case l_law_far => k_is); (case c_law_far => k_is); (case k_law_far => k_is); (case a_law_twin => k_is); (case l_law_twin => k_is); (case c_law_twin => k_is); (case k_law_twin => k_is); (case a_law_odd => k_is); (case l_law_odd => k_is); (case c_law_odd => k_is); (case k_law_odd => k_is); (case a_law_changed => k_is); (case l_law_changed => k_is); (case c_law_changed => k_is); (case k_law_changed => k_is); (case a_law_is_number => k_is); (case l_law_is_number => k_is); (case c_law_is_number => k_is); (case k_law_is_number => k_is); (case a_law_falls => k_is); (case l_law_falls => k_is); (case c_law_falls => k_is); (case k_law_falls => k_is); (case a_law_due => k_is); (case l_law_due => k_is); (case c_law_due => k_is); (case k_law_due => k_is); (case ais_number => k_is); (case lis_number => k_is); (case cis_number => k_is); (case kis_number => k_is); (case ais_number_from_to => k_is); (case lis_number_from_to => k_is); (case cis_number_from_to => k_is); (case kis_number_from_to => k_is); (case ais_tick => k_is); (case lis_tick => k_is); (case cis_tick => k_is); (case kis_tick => k_is); (case ais_mark => k_is); (case lis_mark => k_is); (case cis_mark => k_is); (case kis_mark => k_is); (case ais_push => k_is); (case lis_push => k_is); (case cis_push => k_is); (case kis_push => k_is); (case adistances_of => k_is); (case ldistances_of => k_is); (case cdistances_of => k_is); (case kdistances_of => k_is); (case a_fall_from => k_is); (case l_fall_from => k_is); (case c_fall_from => k_is); (case k_fall_from => k_is); (case afalls_of => k_is); (case lfalls_of => k_is); (case cfalls_of => k_is); (case kfalls_of => k_is); (case a_law_told => k_is); (case l_law_told => k_is); (case c_law_told => k_is); (case k_law_told => k_is); (case a_law_same => k_is); (case l_law_same => k_is); (case c_law_same => k_is); (case k_law_same => k_is); (case ais_row => k_is); (case lis_row => k_is); (case cis_row => k_is); (case kis_row => k_is); (case atree_error => k_is); (case ltree_error => k_is); (case ctree_error => k_is); (case ktree_error => k_is); (case ais_table => k_is); (case lis_table => k_is); (case cis_table => k_is); (case kis_table => k_is); (case o0Falls_init => k_is); (case aFalls_init => k_is); (case lFalls_init => k_is); (case cFalls_init => k_is); (case kFalls_init => k_is); (case alaw => k_is); (case llaw => k_is); (case claw => k_is); (case klaw => k_is); (case z_ValueError => k_is); (case z_abs => k_is); (case z_all => k_is); (case z_bool => k_is); (case z_enumerate => k_is); (case z_int => k_is); (case z_isinstance => k_is); (case z_len => k_is); (case z_list => k_is); (case z_max => k_is); (case z_min => k_is); (case z_range => k_is); (case z_repr => k_is); (case z_tuple => k_is); (case y_LIMIT => k_is); (case y_MAX_LENGTH => k_is); (case y_MAX_MARKS => k_is); (case y_MAX_PUSHES => k_is); (case y_MAX_TICK => k_is)
    (case xF => first | k_is | rfl)
    (case x0BadPushes => first | k_is | rfl)
    (case x4BadPushes => first | k_is | rfl)
    (case x5BadPushes => first | k_is | rfl)
    (case x6BadPushes => first | k_is | rfl)
    (case x7BadPushes => first | k_is | rfl)
    (case x8BadPushes => first | k_is | rfl)
    (case x9BadPushes => first | k_is | rfl)
    (case w1BadPushes => first | k_is | rfl)
    (case w2BadPushes => first | k_is | rfl)
    (case w3BadPushes => first | k_is | rfl)
    (case w4BadPushes => first | k_is | rfl)
    (case w5BadPushes => first | k_is | rfl)
    (case w6BadPushes => first | k_is | rfl)
    (case w7BadPushes => first | k_is | rfl)
    (case w8BadPushes => first | k_is | rfl)
    (case w9BadPushes => first | k_is | rfl)
    (case v1BadPushes => first | k_is | rfl)
    (case v2BadPushes => first | k_is | rfl)
    (case x0BadTable => first | k_is | rfl)
    (case x4BadTable => first | k_is | rfl)
    (case x5BadTable => first | k_is | rfl)
    (case x6BadTable => first | k_is | rfl)
    (case x7BadTable => first | k_is | rfl)
    (case x8BadTable => first | k_is | rfl)
    (case x9BadTable => first | k_is | rfl)
    (case w1BadTable => first | k_is | rfl)
    (case w2BadTable => first | k_is | rfl)
    (case w3BadTable => first | k_is | rfl)
    (case w4BadTable => first | k_is | rfl)
    (case w5BadTable => first | k_is | rfl)
    (case w6BadTable => first | k_is | rfl)
    (case w7BadTable => first | k_is | rfl)
    (case w8BadTable => first | k_is | rfl)
    (case w9BadTable => first | k_is | rfl)
    (case v1BadTable => first | k_is | rfl)
    (case v2BadTable => first | k_is | rfl)
    (case x0BadTree => first | k_is | rfl)
    (case x4BadTree => first | k_is | rfl)
    (case x5BadTree => first | k_is | rfl)
    (case x6BadTree => first | k_is | rfl)
    (case x7BadTree => first | k_is | rfl)
    (case x8BadTree => first | k_is | rfl)
    (case x9BadTree => first | k_is | rfl)
    (case w1BadTree => first | k_is | rfl)
    (case w2BadTree => first | k_is | rfl)
    (case w3BadTree => first | k_is | rfl)
    (case w4BadTree => first | k_is | rfl)
    (case w5BadTree => first | k_is | rfl)
    (case w6BadTree => first | k_is | rfl)
    (case w7BadTree => first | k_is | rfl)
    (case w8BadTree => first | k_is | rfl)
    (case w9BadTree => first | k_is | rfl)
    (case v1BadTree => first | k_is | rfl)
    (case v2BadTree => first | k_is | rfl)
    (case x0BadEdit => first | k_is | rfl)
    (case x0BadText => first | k_is | rfl)
    (case v3_FallError => first | k_is | rfl)
    (case v4_FallError => first | k_is | rfl)
    (case v5_FallError => first | k_is | rfl)
    (case v6_x_FallError_BadPushes => first | k_is | rfl)
    (case q_BadPushes_BadEdit_BadText_BadTree => first | k_is | rfl)
    (case q_BadPushes_ValueError => first | k_is | rfl)
    (case o0Falls => first | k_is | rfl)
    (case o1Falls => first | k_is | rfl)
    (case o2Falls => first | k_is | rfl)
    (case o3Falls => first | k_is | rfl)
    (case o4Falls => first | k_is | rfl)
    (case o5Falls => first | k_is | rfl)
    (case o6Falls => first | k_is | rfl)
    (case o7Falls => first | k_is | rfl)
    (case o8Falls => first | k_is | rfl)
    (case o9intFalls => first | k_is | rfl)
    (case o9boolFalls => first | k_is | rfl)
    (case o9tupleFalls => first | k_is | rfl)
    (case o9listFalls => first | k_is | rfl)
    (case o9strFalls => first | k_is | rfl)
    (case o9dictFalls => first | k_is | rfl)
    (case oF_treeFalls => first | k_is | rfl)
    (case oF_tableFalls => first | k_is | rfl)
    (case p0Falls => first | k_is | rfl)
    (case p1Falls => first | k_is | rfl)
    (case p2Falls => first | k_is | rfl)
    (case p3Falls => first | k_is | rfl)

