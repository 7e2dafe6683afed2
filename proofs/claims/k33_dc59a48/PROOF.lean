import PyProof.Rows.All
import Wide.All
import OpenK.AllK
import Wide.FinOn
import PyProof.EqAt
import PyProof.EqKinds
import PyProof.TupleCall
import HandS.ForMost
import HandS.ForExc
import HandS.Evl
import HandS.TupAny
import HandS.IsInst
import HandS.Deep
import HandS.Flow
import HandS.Style
import HandS.TupMul
import KE.KExcIs
import HandS.ExcInit
import HandS.ClsMeth
import HandS.ExcField
import HandS.ExcIs
import HandS.TryMany
import HandS.OwnEq
import HandS.More
import HandS.Text
import HandS.Rev
import HandS.RevTup
import HandS.SetFor
import HandS.List
import HandS.SortRule
import HandS.SortInts
import HandS.TupSets
import HandS.Sort
import HandS.NamedTupSort
import HandS.Conv
import HandS.SortOrd
import KE.KSortTup
import HandS.TupLe
import HandS.Comp
import HandS.DictComp
import HandS.Dict
import KE.GoesEnum
import HandS.Iter
import KE.DataCmp
import PyProof.FitsBits
import HandS.Star
import PySem.Challenge.RW_treestacks_k33_whole_lengths_and_loops
set_option Elab.async false
set_option linter.all false
set_option maxRecDepth 100000
set_option maxHeartbeats 8000000
/-! Values of a program as plain data: what an expression evaluates to, over heaps that grow. -/
namespace Dx
open PySem PySem.Spec PyProof.Rows L2 Evl

/-! ### data that a value stands for -/
/-- a tuple that stands so: one of the heap, or one of the module's -/
abbrev TupAt (K : PySem.W.Frag) (H : Hp) (a : Addr) (xs : List V) : Prop := H a = some (.tup xs) ∨
  ∃ (o : Obj) (its : Array Value) (n : Nat), K.lookup a = some o ∧ o.cls = .type "tuple" ∧ o.data = .seq its n ∧ its.size ≤ sizeLine ∧ Vals xs its.toList
theorem TupAt.sq {K : PySem.W.Frag} {H : Hp} {a : Addr} {xs : List V} (h : TupAt K H a xs) : SqT K H a xs := h.imp (fun z => .inl z) id
theorem ta_of {K : PySem.W.Frag} {H : Hp} {a : Addr} {xs : List V} (h : H a = some (.tup xs)) : TupAt K H a xs := .inl h
theorem ta_ex {K : PySem.W.Frag} {H H' : Hp} {a : Addr} {xs : List V} (e : Ex H H') (h : TupAt K H a xs) : TupAt K H' a xs := h.imp (fun z => e _ _ z) id
mutual
inductive Dd (K : PySem.W.Frag) (H : Hp) : V → PyData → Prop
  | non : Dd K H .non .none
  | bl (b : Bool) : Dd K H (.bl b) (.bool b)
  | int (i : Int) : Dd K H (.int i) (.int i)
  | str (x : Str) : x.length ≤ sizeLine → Dd K H (.str x) (.str x)
  | lst {a : Addr} {xs : List V} {ds : List PyData} : H a = some (.lst xs) → xs.length ≤ sizeLine → DdAll K H xs ds → Dd K H (.ref a) (.list ds)
  | tup {a : Addr} {xs : List V} {ds : List PyData} : TupAt K H a xs → xs.length ≤ sizeLine → DdAll K H xs ds → Dd K H (.ref a) (.tuple ds)
inductive DdAll (K : PySem.W.Frag) (H : Hp) : List V → List PyData → Prop
  | nil : DdAll K H [] []
  | cons {v : V} {vs : List V} {d : PyData} {ds : List PyData} : Dd K H v d → DdAll K H vs ds → DdAll K H (v :: vs) (d :: ds)
end
section
variable {K : PySem.W.Frag} {H H' : Hp}
mutual
theorem Dd.mono (e : Ex H H') : ∀ (d : PyData) (v : V), Dd K H v d → Dd K H' v d
  | .none, _, h => by cases h; exact .non
  | .bool b, _, h => by cases h; exact .bl b
  | .int i, _, h => by cases h; exact .int i
  | .str x, _, h => by
    cases h with
    | str _ hl => exact .str x hl
  | .list ds, _, h => by
    cases h with
    | lst hs hl ha => exact .lst (e _ _ hs) hl (DdAll.mono e ds _ ha)
  | .tuple ds, _, h => by
    cases h with
    | tup hs hl ha => exact .tup (ta_ex e hs) hl (DdAll.mono e ds _ ha)
  | .dict _, _, h => by cases h
theorem DdAll.mono (e : Ex H H') : ∀ (ds : List PyData) (vs : List V), DdAll K H vs ds → DdAll K H' vs ds
  | [], _, h => by cases h; exact .nil
  | d :: ds, _, h => by
    cases h with
    | cons h1 h2 => exact .cons (Dd.mono e d _ h1) (DdAll.mono e ds _ h2)
end
theorem Dd.up {v : V} {d : PyData} (h : Dd K H v d) (e : Ex H H') : Dd K H' v d := Dd.mono e d v h
theorem DdAll.up {vs : List V} {ds : List PyData} (h : DdAll K H vs ds) (e : Ex H H') : DdAll K H' vs ds := DdAll.mono e ds vs h
mutual
theorem Dd.dp : ∀ (d : PyData) (v : V), Dd K H v d → Dp K H v d
  | .none, _, h => by cases h; exact .non
  | .bool b, _, h => by cases h; exact .bl b
  | .int i, _, h => by cases h; exact .int i
  | .str x, _, h => by
    cases h with
    | str _ hl => exact .str x
  | .list ds, _, h => by
    cases h with
    | lst hs hl ha => exact .lst (sq_of hs) (DdAll.dp ds _ ha)
  | .tuple ds, _, h => by
    cases h with
    | tup hs hl ha => exact .tup hs.sq (DdAll.dp ds _ ha)
  | .dict _, _, h => by cases h
theorem DdAll.dp : ∀ (ds : List PyData) (vs : List V), DdAll K H vs ds → DpAll K H vs ds
  | [], _, h => by cases h; exact .nil
  | d :: ds, _, h => by
    cases h with
    | cons h1 h2 => exact .cons (Dd.dp d _ h1) (DdAll.dp ds _ h2)
end
theorem DdAll.len : ∀ {vs : List V} {ds : List PyData}, DdAll K H vs ds → vs.length = ds.length
  | _, _, .nil => rfl
  | _, _, .cons _ t => by
    rw [List.length_cons, List.length_cons, DdAll.len t]
theorem DdAll.app : ∀ {vs us : List V} {ds es : List PyData}, DdAll K H vs ds → DdAll K H us es → DdAll K H (vs ++ us) (ds ++ es)
  | _, _, _, _, .nil, h => h
  | _, _, _, _, .cons a t, h => .cons a (DdAll.app t h)
theorem DdAll.get : ∀ {vs : List V} {ds : List PyData} {i : Nat} {d : PyData}, DdAll K H vs ds → ds[i]? = some d → ∃ v, vs[i]? = some v ∧ Dd K H v d
  | _, _, _, _, .nil, e => by simp at e
  | _, _, 0, _, .cons a _, e => by
    simp at e
    subst e
    exact ⟨_, rfl, a⟩
  | _, _, i + 1, d, .cons _ t, e => by
    obtain ⟨v, h1, h2⟩ := DdAll.get (i := i) (d := d) t (by simpa using e)
    exact ⟨v, by simpa using h1, h2⟩
theorem DdAll.getv : ∀ {vs : List V} {ds : List PyData} {i : Nat} {v : V}, DdAll K H vs ds → vs[i]? = some v → ∃ d, ds[i]? = some d ∧ Dd K H v d
  | _, _, _, _, .nil, e => by simp at e
  | _, _, 0, _, .cons a _, e => by
    simp at e
    subst e
    exact ⟨_, rfl, a⟩
  | _, _, i + 1, d, .cons _ t, e => by
    obtain ⟨v, h1, h2⟩ := DdAll.getv (i := i) (v := d) t (by simpa using e)
    exact ⟨v, by simpa using h1, h2⟩
theorem DdAll.take : ∀ {vs : List V} {ds : List PyData} (n : Nat), DdAll K H vs ds → DdAll K H (vs.take n) (ds.take n)
  | _, _, 0, _ => .nil
  | _, _, _ + 1, .nil => .nil
  | _, _, n + 1, .cons r t => .cons r (DdAll.take n t)
theorem DdAll.drop : ∀ {vs : List V} {ds : List PyData} (n : Nat), DdAll K H vs ds → DdAll K H (vs.drop n) (ds.drop n)
  | _, _, 0, r => r
  | _, _, _ + 1, .nil => .nil
  | _, _, n + 1, .cons _ t => DdAll.drop n t
theorem DdAll.snoc {vs : List V} {ds : List PyData} {v : V} {d : PyData} (h : DdAll K H vs ds) (g : Dd K H v d) : DdAll K H (vs ++ [v]) (ds ++ [d]) := h.app (.cons g .nil)
theorem DdAll.rev {vs : List V} {ds : List PyData} (h : DdAll K H vs ds) : DdAll K H vs.reverse ds.reverse := by
  induction ds generalizing vs with
  | nil =>
    cases h
    exact .nil
  | cons d ds ih =>
    cases h with
    | cons a t =>
      rw [List.reverse_cons, List.reverse_cons]
      exact (ih t).snoc a
theorem DdAll.rep {vs : List V} {ds : List PyData} (h : DdAll K H vs ds) : ∀ n : Nat, DdAll K H (List.replicate n vs).flatten (List.replicate n ds).flatten
  | 0 => .nil
  | n + 1 => by
    rw [List.replicate_succ, List.replicate_succ, List.flatten_cons, List.flatten_cons]
    exact h.app (DdAll.rep h n)
theorem dd_int {v : V} {i : Int} (h : Dd K H v (.int i)) : v = .int i := by cases h; rfl
theorem dd_bl {v : V} {b : Bool} (h : Dd K H v (.bool b)) : v = .bl b := by cases h; rfl
theorem dd_non {v : V} (h : Dd K H v .none) : v = .non := by cases h; rfl
theorem dd_str {v : V} {x : Str} (h : Dd K H v (.str x)) : v = .str x ∧ x.length ≤ sizeLine := by
  cases h with
  | str _ hl => exact ⟨rfl, hl⟩
theorem dd_tup {v : V} {ds : List PyData} (h : Dd K H v (.tuple ds)) : ∃ a xs, v = .ref a ∧ SqT K H a xs ∧ xs.length ≤ sizeLine ∧ DdAll K H xs ds := by
  cases h with
  | tup hs hl ha => exact ⟨_, _, rfl, hs.sq, hl, ha⟩
theorem dd_tupA {v : V} {ds : List PyData} (h : Dd K H v (.tuple ds)) : ∃ a xs, v = .ref a ∧ TupAt K H a xs ∧ xs.length ≤ sizeLine ∧ DdAll K H xs ds := by
  cases h with
  | tup hs hl ha => exact ⟨_, _, rfl, hs, hl, ha⟩
theorem dd_lst {v : V} {ds : List PyData} (h : Dd K H v (.list ds)) : ∃ a xs, v = .ref a ∧ H a = some (.lst xs) ∧ xs.length ≤ sizeLine ∧ DdAll K H xs ds := by
  cases h with
  | lst hs hl ha => exact ⟨_, _, rfl, hs, hl, ha⟩
end

mutual
theorem eqv_refl : ∀ d : PyData, d.canLay0 = true → PyData.eqv d d = true
  | .none, _ => by simp [PyData.eqv]
  | .bool b, _ => by simp [PyData.eqv]
  | .int i, _ => by simp [PyData.eqv]
  | .str x, _ => by simp [PyData.eqv]
  | .list ds, h => by
    simp only [PyData.eqv]
    exact eqvAll_refl ds (by simpa [PyData.canLay0] using h)
  | .tuple ds, h => by
    simp only [PyData.eqv]
    exact eqvAll_refl ds (by simpa [PyData.canLay0] using h)
  | .dict _, h => by simp [PyData.canLay0] at h
theorem eqvAll_refl : ∀ ds : List PyData, PyData.canLayAll0 ds = true → PyData.eqvAll ds ds = true
  | [], _ => by simp [PyData.eqvAll]
  | d :: ds, h => by
    have h' : d.canLay0 = true ∧ PyData.canLayAll0 ds = true := by simpa [PyData.canLayAll0] using h
    simp only [PyData.eqvAll]
    rw [eqv_refl d h'.1, eqvAll_refl ds h'.2]
    rfl
end
theorem shaped_lay {d : PyData} (h : SeqAt.shaped d = true) : d.canLay0 = true := SeqAt.canLay_of_shaped h

/-! ### objects that are no tuples: lists, dicts, instances .. -/
def nT : HO → Prop
  | .tup _ => False
  | _ => True
def Liv (H : Hp) (a : Addr) : Prop := ∃ o, H a = some o ∧ nT o
theorem Liv.ne {H : Hp} {a : Addr} (h : Liv H a) : H a ≠ none := by
  obtain ⟨o, e, _⟩ := h
  rw [e]
  exact fun z => nomatch z
theorem Liv.upd {H : Hp} {a p : Addr} {o : HO} (h : Liv H a) (hp : a ≠ p) : Liv (upd H p o) a := by
  obtain ⟨x, e, n⟩ := h
  exact ⟨x, by rw [upd_ne hp]; exact e, n⟩
theorem liv_set {H : Hp} {p : Addr} {o : HO} (h : nT o) : Liv (L2.upd H p o) p := ⟨o, upd_same, h⟩
/-! ### what is changed: objects of M alone; J holds of the heap all the while; B: the part of the heap that data stand in -/
structure Fm where
  M : Addr → Prop
  J : Hp → Prop
  up : ∀ H H', Ex H H' → J H → J H'
  lv : ∀ H a, J H → M a → Liv H a
  fr : ∀ H a o, J H → ¬ M a → J (upd H a o)
def Fm.pure : Fm := ⟨fun _ => False, fun _ => True, fun _ _ _ _ => trivial, fun _ _ _ z => z.elim, fun _ _ _ _ _ => trivial⟩
structure Step (M : Addr → Prop) (B H B' H' : Hp) : Prop where
  bb : Ex B B'
  bh : Ex B' H'
  keep : ∀ a o, ¬ M a → H a = some o → H' a = some o
  sep : ∀ a, B a = none → Liv H a → B' a = none
  live : ∀ a, H a ≠ none → H' a ≠ none
  liv : ∀ a, Liv H a → Liv H' a
section
variable {M M' : Addr → Prop} {B H B' H' B2 H2 : Hp} {p : Addr} {o : HO}
theorem Step.refl (e : Ex B H) : Step M B H B H := ⟨Ex.refl B, e, fun _ _ _ h => h, fun _ h _ => h, fun _ h => h, fun _ h => h⟩
theorem Step.trans (a : Step M B H B' H') (b : Step M B' H' B2 H2) : Step M B H B2 H2 :=
  ⟨a.bb.trans b.bb, b.bh, fun x o n h => b.keep x o n (a.keep x o n h), fun x h n => b.sep x (a.sep x h n) (a.liv x n), fun x n => b.live x (a.live x n), fun x n => b.liv x (a.liv x n)⟩
theorem Step.imp (a : Step M B H B' H') (h : ∀ x, M x → M' x) : Step M' B H B' H' := ⟨a.bb, a.bh, fun x o n => a.keep x o fun z => n (h x z), a.sep, a.live, a.liv⟩
theorem Step.pure (a : Step (fun _ => False) B H B' H') : Step M B H B' H' := a.imp fun _ z => z.elim
theorem Step.ex (a : Step (fun _ => False) B H B' H') : Ex H H' := fun x o h => a.keep x o (fun z => z) h
theorem Step.alloc (e : Ex B H) (hp : H p = none) : Step M B H (upd B p o) (upd H p o) where
  bb := Ex.new (fresh_back e hp)
  bh := fun a u h => by
    by_cases ha : a = p
    · subst ha
      rw [upd_same] at h ⊢
      exact h
    · rw [upd_ne ha] at h ⊢
      exact e a u h
  keep := fun a u _ h => by
    rw [upd_ne (ne_of_none h hp)]
    exact h
  sep := fun a h n => by
    have ha : a ≠ p := fun z => n.ne (z ▸ hp)
    rw [upd_ne ha]
    exact h
  live := fun a n => by
    have ha : a ≠ p := fun z => n (z ▸ hp)
    rw [upd_ne ha]
    exact n
  liv := fun a n => n.upd fun z => n.ne (z ▸ hp)
end

/-- the data stand in B, nothing of M among them -/
structure Ok (F : Fm) (B H : Hp) : Prop where
  e : Ex B H
  j : F.J H
  av : ∀ a, F.M a → B a = none
section
variable {F : Fm} {B H B' H' : Hp} {p : Addr} {o : HO}
theorem Ok.next (k : Ok F B H) (s : Step F.M B H B' H') (j : F.J H') : Ok F B' H' := ⟨s.bh, j, fun a m => s.sep a (k.av a m) (F.lv H a k.j m)⟩
theorem Ok.alloc (k : Ok F B H) (hp : H p = none) : Ok F (upd B p o) (upd H p o) := k.next (Step.alloc k.e hp) (F.up _ _ (Ex.new hp) k.j)
theorem Ok.pure (k : Ok F B H) (s : Step (fun _ => False) B H B' H') : Ok F B' H' := k.next s.pure (F.up _ _ s.ex k.j)
theorem Ok.any (e : Ex B H) : Ok Fm.pure B H := ⟨e, trivial, fun _ z => z.elim⟩
end

/-! ### what expressions evaluate to -/
abbrev PV := V → Hp → Prop
def EV (F : Fm) (te : TE) (σ : L2.St) (B : Hp) (P : PV) : Prop := ∀ B1, Ex B B1 → ∀ H, Ok F B1 H → ∀ Q : VK, (∀ v B' H', Step F.M B1 H B' H' → Ok F B' H' → P v B' → Q v H') → te σ H Q
def EVs (F : Fm) (ta : TA) (σ : L2.St) (B : Hp) (P : List V → Hp → Prop) : Prop := ∀ B1, Ex B B1 → ∀ H, Ok F B1 H → ∀ Q : List V → Hp → Prop, (∀ vs B' H', Step F.M B1 H B' H' → Ok F B' H' → P vs B' → Q vs H') → ta σ H Q
def ETt (F : Fm) (tt : TT) (σ : L2.St) (B : Hp) (b : Bool) : Prop := ∀ B1, Ex B B1 → ∀ H, Ok F B1 H → ∀ Q : Bool → Hp → Prop, (∀ B' H', Step F.M B1 H B' H' → Ok F B' H' → Q b H') → tt σ H Q
def DD (K : PySem.W.Frag) (d : PyData) : PV := fun v B => Dd K B v d
def DDs (K : PySem.W.Frag) (ds : List PyData) : List V → Hp → Prop := fun vs B => DdAll K B vs ds
abbrev ED (F : Fm) (K : PySem.W.Frag) (te : TE) (σ : L2.St) (B : Hp) (d : PyData) : Prop := EV F te σ B (DD K d)
abbrev EDs (F : Fm) (K : PySem.W.Frag) (ta : TA) (σ : L2.St) (B : Hp) (ds : List PyData) : Prop := EVs F ta σ B (DDs K ds)
/-- operations on values -/
def RV2 (F : Fm) (r : R2) (B : Hp) (P P' Z : PV) : Prop := ∀ B1, Ex B B1 → ∀ H u v, Ok F B1 H → P u B1 → P' v B1 → ∀ Q : VK, (∀ w B' H', Step F.M B1 H B' H' → Ok F B' H' → Z w B' → Q w H') → r u v H Q
def RVc (F : Fm) (r : List V → Hp → VK → Prop) (B : Hp) (P : List V → Hp → Prop) (Z : PV) : Prop := ∀ B1, Ex B B1 → ∀ H us, Ok F B1 H → P us B1 → ∀ Q : VK, (∀ w B' H', Step F.M B1 H B' H' → Ok F B' H' → Z w B' → Q w H') → r us H Q
abbrev RD2 (F : Fm) (K : PySem.W.Frag) (r : R2) (B : Hp) (x y z : PyData) : Prop := RV2 F r B (DD K x) (DD K y) (DD K z)
abbrev RDc (F : Fm) (K : PySem.W.Frag) (r : List V → Hp → VK → Prop) (B : Hp) (xs : List PyData) (z : PyData) : Prop := RVc F r B (DDs K xs) (DD K z)
/-- stays true in larger heaps -/
def Upc (P : PV) : Prop := ∀ v B B', Ex B B' → P v B → P v B'
def Upcs (P : List V → Hp → Prop) : Prop := ∀ v B B', Ex B B' → P v B → P v B'
section
variable {F : Fm} {K : PySem.W.Frag} {σ : L2.St} {B B' : Hp} {te ta tb tc : TE} {tas : TA} {t u : TT} {d x y z : PyData} {ds : List PyData} {b c : Bool} {P P' Z : PV} {Ps : List V → Hp → Prop}
theorem upc_dd : Upc (DD K d) := fun _ _ _ e h => Dd.up h e
theorem upc_dds : Upcs (DDs K ds) := fun _ _ _ e h => DdAll.up h e
theorem EV.up (h : EV F te σ B P) (e : Ex B B') : EV F te σ B' P := fun B1 e0 H j Q q => h B1 (e.trans e0) H j Q q
theorem EVs.up (h : EVs F tas σ B Ps) (e : Ex B B') : EVs F tas σ B' Ps := fun B1 e0 H j Q q => h B1 (e.trans e0) H j Q q
theorem ETt.up (h : ETt F t σ B b) (e : Ex B B') : ETt F t σ B' b := fun B1 e0 H j Q q => h B1 (e.trans e0) H j Q q
theorem EV.imp (h : EV F te σ B P) (i : ∀ v B1, Ex B B1 → P v B1 → Z v B1) : EV F te σ B Z := fun B1 e0 H j Q q => h B1 e0 H j Q fun v B2 H2 s j2 p => q v B2 H2 s j2 (i v B2 (e0.trans s.bb) p)
theorem ed_is {d' : PyData} (h : ED F K te σ B d) (e : d = d') : ED F K te σ B d' := e ▸ h
theorem et_is {b' : Bool} (h : ETt F t σ B b) (e : b = b') : ETt F t σ B b' := e ▸ h
theorem ev_v {v : V} (hu : Upc P) (h : P v B) : EV F (tC v) σ B P := fun B1 e0 H j Q q => q v B1 H (Step.refl j.e) j (hu v B B1 e0 h)
theorem ev_var {i : Nat} {v : V} (hi : σ[i]? = some (some v)) (hu : Upc P) (h : P v B) : EV F (tVar i) σ B P := fun B1 e0 H j Q q => ⟨v, hi, q v B1 H (Step.refl j.e) j (hu v B B1 e0 h)⟩
theorem ed_var {i : Nat} {v : V} (hi : σ[i]? = some (some v)) (h : Dd K B v d) : ED F K (tVar i) σ B d := ev_var hi upc_dd h
theorem ed_v {v : V} (h : Dd K B v d) : ED F K (tC v) σ B d := ev_v upc_dd h
theorem ed_int {i : Int} : ED F K (tC (.int i)) σ B (.int i) := ed_v (.int i)
theorem ed_bl : ED F K (tC (.bl b)) σ B (.bool b) := ed_v (.bl b)
theorem ed_non : ED F K (tC .non) σ B .none := ed_v .non
theorem ed_str {x : Str} (hl : x.length ≤ sizeLine := by decide) : ED F K (tC (.str x)) σ B (.str x) := ed_v (.str x hl)
theorem evs_nil : EVs F tNil σ B (fun vs _ => vs = []) := fun B1 e0 H j Q q => q [] B1 H (Step.refl j.e) j rfl
theorem evs_cons (hu : Upc P) (h : EV F te σ B P) (hs : EVs F tas σ B Ps) : EVs F (tCons te tas) σ B (fun vs B => ∃ v us, vs = v :: us ∧ P v B ∧ Ps us B) := fun B1 e0 H j Q q =>
  h B1 e0 H j _ fun v B2 H2 s2 j2 p => hs B2 (e0.trans s2.bb) H2 j2 _ fun us B3 H3 s3 j3 ps => q (v :: us) B3 H3 (s2.trans s3) j3 ⟨v, us, rfl, hu v B2 B3 s3.bb p, ps⟩
theorem eds_nil : EDs F K tNil σ B [] := fun B1 e0 H j Q q => q [] B1 H (Step.refl j.e) j .nil
theorem eds_cons (h : ED F K te σ B d) (hs : EDs F K tas σ B ds) : EDs F K (tCons te tas) σ B (d :: ds) := fun B1 e0 H j Q q =>
  h B1 e0 H j _ fun v B2 H2 s2 j2 p => hs B2 (e0.trans s2.bb) H2 j2 _ fun us B3 H3 s3 j3 ps => q (v :: us) B3 H3 (s2.trans s3) j3 (.cons (Dd.up p s3.bb) ps)
/-- a new object -/
theorem EVs.newT (h : EVs F tas σ B Ps) (hl : ∀ vs B1, Ex B B1 → Ps vs B1 → vs.length ≤ sizeLine) (hz : ∀ vs p B1, Ex B B1 → Ps vs B1 → B1 p = none → Z (.ref p) (upd B1 p (.tup vs))) : EV F (tTup tas) σ B Z := fun B1 e0 H j Q q =>
  h B1 e0 H j _ fun vs B2 H2 s2 j2 p => ⟨hl vs B2 (e0.trans s2.bb) p, fun a ha => q (.ref a) _ _ (s2.trans (Step.alloc j2.e ha)) (j2.alloc ha) (hz vs a B2 (e0.trans s2.bb) p (fresh_back s2.bh ha))⟩
theorem EVs.newL (h : EVs F tas σ B Ps) (hl : ∀ vs B1, Ex B B1 → Ps vs B1 → vs.length ≤ sizeLine) (hz : ∀ vs p B1, Ex B B1 → Ps vs B1 → B1 p = none → Z (.ref p) (upd B1 p (.lst vs))) : EV F (tLst tas) σ B Z := fun B1 e0 H j Q q =>
  h B1 e0 H j _ fun vs B2 H2 s2 j2 p => ⟨hl vs B2 (e0.trans s2.bb) p, fun a ha => q (.ref a) _ _ (s2.trans (Step.alloc j2.e ha)) (j2.alloc ha) (hz vs a B2 (e0.trans s2.bb) p (fresh_back s2.bh ha))⟩
theorem ed_tup (h : EDs F K tas σ B ds) (hl : ds.length ≤ 16777216 := by exact Nat.le_of_ble_eq_true rfl) : ED F K (tTup tas) σ B (.tuple ds) := by
  have lz : ∀ (vs : List V) (B1 : Hp), Ex B B1 → DDs K ds vs B1 → vs.length ≤ sizeLine := fun vs B1 _ g => by rw [DdAll.len g, sizeLine_eq]; exact hl
  exact h.newT lz fun vs p B1 e g hp => .tup (ta_of upd_same) (lz vs B1 e g) (DdAll.up g (Ex.new hp))
theorem ed_lst (h : EDs F K tas σ B ds) (hl : ds.length ≤ 16777216 := by exact Nat.le_of_ble_eq_true rfl) : ED F K (tLst tas) σ B (.list ds) := by
  have lz : ∀ (vs : List V) (B1 : Hp), Ex B B1 → DDs K ds vs B1 → vs.length ≤ sizeLine := fun vs B1 _ g => by rw [DdAll.len g, sizeLine_eq]; exact hl
  exact h.newL lz fun vs p B1 e g hp => .lst upd_same (lz vs B1 e g) (DdAll.up g (Ex.new hp))
theorem ev_op {r : R2} (ha : EV F ta σ B P) (hb : EV F tb σ B P') (hu : Upc P) (hr : RV2 F r B P P' Z) : EV F (tOp r ta tb) σ B Z := fun B1 e0 H j Q q =>
  ha B1 e0 H j _ fun v B2 H2 s2 j2 h2 => hb B2 (e0.trans s2.bb) H2 j2 _ fun w B3 H3 s3 j3 h3 =>
    hr B3 ((e0.trans s2.bb).trans s3.bb) H3 v w j3 (hu v B2 B3 s3.bb h2) h3 Q fun z B4 H4 s4 j4 h4 => q z B4 H4 ((s2.trans s3).trans s4) j4 h4
theorem ed_op {r : R2} (ha : ED F K ta σ B x) (hb : ED F K tb σ B y) (hr : RD2 F K r B x y z) : ED F K (tOp r ta tb) σ B z := ev_op ha hb upc_dd hr
theorem ev_cb {r : List V → Hp → VK → Prop} (h : EVs F tas σ B Ps) (hr : RVc F r B Ps Z) : EV F (tCB r tas) σ B Z := fun B1 e0 H j Q q =>
  h B1 e0 H j _ fun vs B2 H2 s2 j2 h2 => hr B2 (e0.trans s2.bb) H2 vs j2 h2 Q fun w B3 H3 s3 j3 h3 => q w B3 H3 (s2.trans s3) j3 h3
theorem ev_call {sp : Sp} {E : XK} (h : EVs F tas σ B Ps) (hr : RVc F (fun vs H Q => sp vs H Q E) B Ps Z) : EV F (tCall sp [] E tas) σ B Z := fun B1 e0 H j Q q =>
  h B1 e0 H j _ fun vs B2 H2 s2 j2 h2 => by
    show sp (vs ++ []) H2 Q E
    rw [List.append_nil]
    exact hr B2 (e0.trans s2.bb) H2 vs j2 h2 Q fun w B3 H3 s3 j3 h3 => q w B3 H3 (s2.trans s3) j3 h3
theorem ev_if (h : ETt F t σ B b) (h1 : b = true → EV F ta σ B P) (h2 : b = false → EV F tb σ B P) : EV F (tIf t ta tb) σ B P := fun B1 e0 H j Q q => h B1 e0 H j _ fun B2 H2 s2 j2 => by
  cases b with
  | true =>
    show ta σ H2 Q
    exact h1 rfl B2 (e0.trans s2.bb) H2 j2 Q fun v B3 H3 s3 j3 g => q v B3 H3 (s2.trans s3) j3 g
  | false =>
    show tb σ H2 Q
    exact h2 rfl B2 (e0.trans s2.bb) H2 j2 Q fun v B3 H3 s3 j3 g => q v B3 H3 (s2.trans s3) j3 g
theorem ed_andV (h1 : ED F K ta σ B (.bool b)) (h2 : b = true → ED F K tb σ B (.bool c)) : ED F K (tAndV ta tb) σ B (.bool (b && c)) := fun B1 e0 H j Q q => h1 B1 e0 H j _ fun v B2 H2 s2 j2 g => ⟨b, dd_bl g, by
  cases b with
  | true =>
    show tb σ H2 Q
    exact h2 rfl B2 (e0.trans s2.bb) H2 j2 Q fun v B3 H3 s3 j3 g => q v B3 H3 (s2.trans s3) j3 g
  | false =>
    show Q (.bl false) H2
    exact q _ B2 H2 s2 j2 (.bl false)⟩
theorem ed_orV (h1 : ED F K ta σ B (.bool b)) (h2 : b = false → ED F K tb σ B (.bool c)) : ED F K (tOrV ta tb) σ B (.bool (b || c)) := fun B1 e0 H j Q q => h1 B1 e0 H j _ fun v B2 H2 s2 j2 g => ⟨b, dd_bl g, by
  cases b with
  | true =>
    show Q (.bl true) H2
    exact q _ B2 H2 s2 j2 (.bl true)
  | false =>
    show tb σ H2 Q
    exact h2 rfl B2 (e0.trans s2.bb) H2 j2 Q fun v B3 H3 s3 j3 g => q v B3 H3 (s2.trans s3) j3 g⟩
/-- a < b < c -/
theorem ed_chain {r r' : R2} (ha : ED F K ta σ B x) (hb : ED F K tb σ B y) (hr : RD2 F K r B x y (.bool b)) (h2 : b = true → ∃ z, ED F K tc σ B z ∧ RD2 F K r' B y z (.bool c)) : ED F K (tChain r r' ta tb tc) σ B (.bool (b && c)) := fun B1 e0 H j Q q =>
  ha B1 e0 H j _ fun v B2 H2 s2 j2 h2' => hb B2 (e0.trans s2.bb) H2 j2 _ fun w B3 H3 s3 j3 h3 => hr B3 ((e0.trans s2.bb).trans s3.bb) H3 v w j3 (Dd.up h2' s3.bb) h3 _ fun z B4 H4 s4 j4 h4 => ⟨b, dd_bl h4, by
    cases b with
    | true =>
      obtain ⟨z, hc, hr2⟩ := h2 rfl
      show tc σ H4 _
      exact hc B4 (((e0.trans s2.bb).trans s3.bb).trans s4.bb) H4 j4 _ fun u B5 H5 s5 j5 h5 => hr2 B5 ((((e0.trans s2.bb).trans s3.bb).trans s4.bb).trans s5.bb) H5 w u j5 (Dd.up h3 (s4.bb.trans s5.bb)) h5 Q fun t B6 H6 s6 j6 h6 => q t B6 H6 ((((s2.trans s3).trans s4).trans s5).trans s6) j6 h6
    | false =>
      show Q (.bl false) H4
      exact q _ B4 H4 ((s2.trans s3).trans s4) j4 (.bl false)⟩
theorem ed_notV (h1 : ED F K ta σ B (.bool b)) : ED F K (tNotV ta) σ B (.bool (!b)) := fun B1 e0 H j Q q => h1 B1 e0 H j _ fun v B2 H2 s2 j2 g => ⟨b, dd_bl g, q _ B2 H2 s2 j2 (.bl _)⟩
/-! tests -/
theorem et_cmp (h : ED F K te σ B (.bool b)) : ETt F (tTest te) σ B b := fun B1 e0 H j Q q => h B1 e0 H j _ fun v B2 H2 s2 j2 g => ⟨b, dd_bl g, q B2 H2 s2 j2⟩
theorem et_val (h : ED F K te σ B (.bool b)) : ETt F (tB te) σ B b := fun B1 e0 H j Q q => h B1 e0 H j _ fun v B2 H2 s2 j2 g => ⟨b, dd_bl g, q B2 H2 s2 j2⟩
theorem et_not (h : ETt F t σ B b) : ETt F (tNot t) σ B (!b) := fun B1 e0 H j Q q => h B1 e0 H j _ fun B2 H2 s2 j2 => q B2 H2 s2 j2
theorem et_and (h1 : ETt F t σ B b) (h2 : b = true → ETt F u σ B c) : ETt F (tAnd t u) σ B (b && c) := fun B1 e0 H j Q q => h1 B1 e0 H j _ fun B2 H2 s2 j2 => by
  cases b with
  | true =>
    show u σ H2 Q
    exact h2 rfl B2 (e0.trans s2.bb) H2 j2 Q fun B3 H3 s3 j3 => q B3 H3 (s2.trans s3) j3
  | false =>
    show Q false H2
    exact q B2 H2 s2 j2
theorem et_or (h1 : ETt F t σ B b) (h2 : b = false → ETt F u σ B c) : ETt F (tOr t u) σ B (b || c) := fun B1 e0 H j Q q => h1 B1 e0 H j _ fun B2 H2 s2 j2 => by
  cases b with
  | true =>
    show Q true H2
    exact q B2 H2 s2 j2
  | false =>
    show u σ H2 Q
    exact h2 rfl B2 (e0.trans s2.bb) H2 j2 Q fun B3 H3 s3 j3 => q B3 H3 (s2.trans s3) j3
theorem PW_or3 {t1 t2 t3 : TT} (h1 : ETt F t1 σ B false) (h2 : ETt F t2 σ B false) (h3 : ETt F t3 σ B false) : ETt F (tOr t1 (tOr t2 t3)) σ B false := et_or h1 fun _ => et_or h2 fun _ => h3
/-- a value's truth -/
def tru : PyData → Bool
  | .none => false
  | .bool b => b
  | .int i => i != 0
  | .str x => (x.length : Int) != 0
  | .list ds => !ds.isEmpty
  | .tuple ds => !ds.isEmpty
  | .dict kvs => !kvs.isEmpty
theorem DdAll.emp {K : PySem.W.Frag} {H : Hp} {vs : List V} {ds : List PyData} (h : DdAll K H vs ds) : (!vs.isEmpty) = !ds.isEmpty := by cases h <;> rfl
theorem truV {K : PySem.W.Frag} {H : Hp} {v : V} {d : PyData} (h : Dd K H v d) : TruV K v H (tru d) := by
  cases h with
  | non => exact rfl
  | bl b => exact rfl
  | int i => exact rfl
  | str x hl => exact ⟨hl, rfl⟩
  | lst hs hl ha => exact .inl ⟨_, sq_of hs, (DdAll.emp ha).symm⟩
  | tup hs hl ha => exact .inr (.inl ⟨_, hs.sq, (DdAll.emp ha).symm⟩)
theorem et_tru (h : ED F K te σ B d) : ETt F (fun σ H Q => te σ H fun x H' => ∃ k, TruV K x H' k ∧ Q k H') σ B (tru d) := fun B1 e0 H j Q q => h B1 e0 H j _ fun v B2 H2 s2 j2 g => ⟨tru d, truV (Dd.up g s2.bh), q B2 H2 s2 j2⟩
end

/-! ### operations -/
section
variable {F : Fm} {K : PySem.W.Frag} {B : Hp} {i j : Int} {x y z d : PyData} {ds es xs : List PyData}
/-- an operation that makes nothing -/
theorem rd_of {r : R2} (h : ∀ H u v, Dd K H u x → Dd K H v y → ∃ w, (∀ H', Dd K H' w z) ∧ ∀ Q : VK, Q w H → r u v H Q) : RD2 F K r B x y z := fun B1 e0 H u v jj hu hv Q q => by
  obtain ⟨w, hw, hq⟩ := h H u v (Dd.up hu jj.e) (Dd.up hv jj.e)
  exact hq Q (q w B1 H (Step.refl jj.e) jj (hw B1))
/-- + of ints, texts, lists, tuples -/
def rAddA (K : PySem.W.Frag) : R2 := fun x y H Q => rI0 (fun i j => .int (i + j)) x y H Q ∨ (∃ i j, x = .str i ∧ y = .str j ∧ i.length + j.length ≤ sizeLine ∧ Q (.str (i ++ j)) H) ∨ rCat x y H Q ∨ rCatA K x y H Q
theorem op_addA {X : Cx} : OpR X (binaryOp .Add) (rAddA X.K) := op_add.or (op_add_str.or (op_cat.or op_catA))
theorem rd_add : RD2 F K (rAddA K) B (.int i) (.int j) (.int (i + j)) := rd_of fun H u v hu hv => ⟨.int (i + j), fun _ => .int _, fun Q q => .inl ⟨i, j, dd_int hu, dd_int hv, q⟩⟩
theorem str_app_len (a b : Str) : (a ++ b).length = a.length + b.length := by
  show (a.cps ++ b.cps).size = a.cps.size + b.cps.size
  exact Array.size_append
theorem rd_addS {a b : Str} (hl : a.length + b.length ≤ 16777216) : RD2 F K (rAddA K) B (.str a) (.str b) (.str (a ++ b)) := rd_of fun H u v hu hv =>
  ⟨.str (a ++ b), fun _ => .str _ (by rw [str_app_len, sizeLine_eq]; exact hl), fun Q q => .inr (.inl ⟨a, b, (dd_str hu).1, (dd_str hv).1, by rw [sizeLine_eq]; exact hl, q⟩)⟩
/-- + of lists: what their items are is kept -/
theorem rv_addL {a b : Addr} {vs us : List V} (hl : vs.length + us.length ≤ 16777216) {Z : PV} (hz : ∀ p B1, Ex B B1 → B1 p = none → Z (.ref p) (upd B1 p (.lst (vs ++ us)))) :
    RV2 F (rAddA K) B (fun v B => v = .ref a ∧ B a = some (.lst vs)) (fun v B => v = .ref b ∧ B b = some (.lst us)) Z := fun B1 e0 H u v jj ⟨hu, h1⟩ ⟨hv, h2⟩ Q q =>
  .inr (.inr (.inl ⟨a, b, vs, us, hu, hv, jj.e _ _ h1, jj.e _ _ h2, by rw [sizeLine_eq]; exact hl, fun p hp => q _ _ _ (Step.alloc jj.e hp) (jj.alloc hp) (hz p B1 e0 (fresh_back jj.e hp))⟩))
theorem rd_addL (hl : ds.length + es.length ≤ 16777216) : RD2 F K (rAddA K) B (.list ds) (.list es) (.list (ds ++ es)) := fun B1 e0 H u v jj hu hv Q q => by
  obtain ⟨a, xs, rfl, h1, l1, g1⟩ := dd_lst hu
  obtain ⟨b, ys, rfl, h2, l2, g2⟩ := dd_lst hv
  have hz : xs.length + ys.length ≤ sizeLine := by rw [g1.len, g2.len, sizeLine_eq]; exact hl
  exact .inr (.inr (.inl ⟨a, b, xs, ys, rfl, rfl, jj.e _ _ h1, jj.e _ _ h2, hz, fun p hp => q _ _ _ (Step.alloc jj.e hp) (jj.alloc hp) (.lst upd_same (by rw [List.length_append]; exact hz) ((g1.app g2).up (Ex.new (fresh_back jj.e hp))))⟩))
theorem rd_addT (hl : ds.length + es.length ≤ 16777216) : RD2 F K (rAddA K) B (.tuple ds) (.tuple es) (.tuple (ds ++ es)) := fun B1 e0 H u v jj hu hv Q q => by
  obtain ⟨a, xs, rfl, h1, l1, g1⟩ := dd_tup hu
  obtain ⟨b, ys, rfl, h2, l2, g2⟩ := dd_tup hv
  have hz : xs.length + ys.length ≤ sizeLine := by rw [g1.len, g2.len, sizeLine_eq]; exact hl
  refine .inr (.inr (.inr ⟨a, b, xs, ys, rfl, rfl, ex_t jj.e h1, ex_t jj.e h2, hz, fun e => ?_, fun _ e => ?_, fun _ _ p hp => q _ _ _ (Step.alloc jj.e hp) (jj.alloc hp) (.tup (ta_of upd_same) (by rw [List.length_append]; exact hz) ((g1.app g2).up (Ex.new (fresh_back jj.e hp))))⟩))
  · subst e
    cases g1
    exact q _ B1 H (Step.refl jj.e) jj hv
  · subst e
    cases g2
    rw [List.append_nil] at q
    exact q _ B1 H (Step.refl jj.e) jj hu
theorem rd_I0 {g : Int → Int → Int} : RD2 F K (rI0 fun i j => .int (g i j)) B (.int i) (.int j) (.int (g i j)) := rd_of fun H u v hu hv => ⟨.int (g i j), fun _ => .int _, fun Q q => ⟨i, j, dd_int hu, dd_int hv, q⟩⟩
theorem rd_I {C : Int → Int → Prop} {g : Int → Int → Int} (hc : C i j) : RD2 F K (rI C fun i j => .int (g i j)) B (.int i) (.int j) (.int (g i j)) := rd_of fun H u v hu hv => ⟨.int (g i j), fun _ => .int _, fun Q q => ⟨i, j, dd_int hu, dd_int hv, hc, q⟩⟩
theorem rd_sub : RD2 F K (rI0 fun i j => .int (i - j)) B (.int i) (.int j) (.int (i - j)) := rd_I0 (g := fun i j => i - j)
theorem rd_mul (hc : CMul i j) : RD2 F K (rI CMul fun i j => .int (i * j)) B (.int i) (.int j) (.int (i * j)) := rd_I (g := fun i j => i * j) hc
theorem rd_mod (hc : 0 < j) : RD2 F K (rI (fun _ j => 0 < j) fun i j => .int (i % j)) B (.int i) (.int j) (.int (i % j)) := rd_I (C := fun _ j => 0 < j) (g := fun i j => i % j) hc
theorem rd_fdiv (hc : CDiv i j) : RD2 F K (rI CDiv fun i j => .int (i / j)) B (.int i) (.int j) (.int (i / j)) := rd_I (g := fun i j => i / j) hc
theorem rd_pow (hc : CPow i j) : RD2 F K (rI CPow fun i j => .int (i ^ j.toNat)) B (.int i) (.int j) (.int (i ^ j.toNat)) := rd_I (g := fun i j => i ^ j.toNat) hc
theorem rd_cmp {p : Int → Int → Bool} : RD2 F K (rI0 fun i j => .bl (p i j)) B (.int i) (.int j) (.bool (p i j)) := rd_of fun H u v hu hv => ⟨.bl (p i j), fun _ => .bl _, fun Q q => ⟨i, j, dd_int hu, dd_int hv, q⟩⟩
theorem rd_lt : RD2 F K (rI0 fun i j => .bl (decide (i < j))) B (.int i) (.int j) (.bool (decide (i < j))) := rd_cmp (p := fun i j => decide (i < j))
theorem rd_le : RD2 F K (rI0 fun i j => .bl (decide (i ≤ j))) B (.int i) (.int j) (.bool (decide (i ≤ j))) := rd_cmp (p := fun i j => decide (i ≤ j))
theorem rd_gt : RD2 F K (rI0 fun i j => .bl (decide (j < i))) B (.int i) (.int j) (.bool (decide (j < i))) := rd_cmp (p := fun i j => decide (j < i))
theorem rd_ge : RD2 F K (rI0 fun i j => .bl (decide (j ≤ i))) B (.int i) (.int j) (.bool (decide (j ≤ i))) := rd_cmp (p := fun i j => decide (j ≤ i))
theorem rd_eqD (hx : SeqAt.shaped x = true) (hy : SeqAt.shaped y = true) : RD2 F K (rEqD K) B x y (.bool (PyData.eqv x y)) := rd_of fun H u v hu hv => ⟨.bl _, fun _ => .bl _, fun Q q => ⟨x, y, Dd.dp _ _ hu, Dd.dp _ _ hv, hx, hy, q⟩⟩
theorem rd_neD (hx : SeqAt.shaped x = true) (hy : SeqAt.shaped y = true) : RD2 F K (rNeD K) B x y (.bool (!PyData.eqv x y)) := rd_of fun H u v hu hv => ⟨.bl _, fun _ => .bl _, fun Q q => ⟨x, y, Dd.dp _ _ hu, Dd.dp _ _ hv, hx, hy, q⟩⟩
def isNon : PyData → Bool
  | .none => true
  | _ => false
theorem dd_isNon {H : Hp} {v : V} (h : Dd K H v d) : decide (v = .non) = isNon d := by
  cases h <;> first | rfl | exact decide_eq_false (fun z => nomatch z)
theorem rd_isN : RD2 F K (fun x y H Q => y = .non ∧ Q (.bl (decide (x = .non))) H) B x .none (.bool (isNon x)) := rd_of fun H u v hu hv => ⟨.bl (isNon x), fun _ => .bl _, fun Q q => ⟨dd_non hv, by
  show Q (.bl (decide (u = .non))) H
  rw [dd_isNon hu]
  exact q⟩⟩
theorem rd_notN : RD2 F K (fun x y H Q => y = .non ∧ Q (.bl (!decide (x = .non))) H) B x .none (.bool (!isNon x)) := rd_of fun H u v hu hv => ⟨.bl (!isNon x), fun _ => .bl _, fun Q q => ⟨dd_non hv, by
  show Q (.bl (!decide (u = .non))) H
  rw [dd_isNon hu]
  exact q⟩⟩
/-- x[i] -/
theorem atI_data {H : Hp} {vs : List V} (h : DdAll K H vs ds) (e : atI ds i = some d) : ∃ v, atI vs i = some v ∧ Dd K H v d := by
  unfold atI at e ⊢
  rw [h.len]
  obtain ⟨j, e1, e2⟩ := Option.bind_eq_some_iff.mp e
  obtain ⟨v, h1, h2⟩ := h.get e2
  exact ⟨v, by rw [e1]; exact h1, h2⟩
theorem rd_ixT (e : atI ds i = some d) : RD2 F K (rIx K) B (.tuple ds) (.int i) d := fun B1 e0 H u v jj hu hv Q q => by
  obtain ⟨a, xs, rfl, h1, l1, g1⟩ := dd_tup hu
  obtain ⟨w, e2, h2⟩ := atI_data g1 e
  exact .inr (.inl ⟨a, xs, i, w, rfl, dd_int hv, ex_t jj.e h1, e2, q _ B1 H (Step.refl jj.e) jj h2⟩)
theorem rd_ixL (e : atI ds i = some d) : RD2 F K (rIx K) B (.list ds) (.int i) d := fun B1 e0 H u v jj hu hv Q q => by
  obtain ⟨a, xs, rfl, h1, l1, g1⟩ := dd_lst hu
  obtain ⟨w, e2, h2⟩ := atI_data g1 e
  exact .inl ⟨a, xs, i, w, rfl, dd_int hv, sq_of (jj.e _ _ h1), e2, q _ B1 H (Step.refl jj.e) jj h2⟩
theorem rd_ixS {s : Str} {c : Nat} (e : atI s.cps.toList i = some c) : RD2 F K (rIx K) B (.str s) (.int i) (.str ⟨#[c]⟩) := fun B1 e0 H u v jj hu hv Q q => by
  obtain ⟨rfl, hl⟩ := dd_str hu
  exact .inr (.inr ⟨s, i, c, rfl, dd_int hv, hl, e, q _ B1 H (Step.refl jj.e) jj (.str _ (by show 1 ≤ sizeLine; decide))⟩)
/-- calls of built-ins -/
theorem rc_of {r : List V → Hp → VK → Prop} (h : ∀ H u, Dd K H u x → ∃ w, (∀ H', Dd K H' w z) ∧ ∀ Q : VK, Q w H → r [u] H Q) : RDc F K r B [x] z := fun B1 e0 H us jj hu Q q => by
  cases hu with
  | cons a t =>
    cases t
    obtain ⟨w, hw, hq⟩ := h H _ (Dd.up a jj.e)
    exact hq Q (q w B1 H (Step.refl jj.e) jj (hw B1))
def lenD : PyData → Int
  | .str x => (x.length : Nat)
  | .list ds => (ds.length : Nat)
  | .tuple ds => (ds.length : Nat)
  | _ => 0
def hasLen : PyData → Bool
  | .str _ => true
  | .list _ => true
  | .tuple _ => true
  | _ => false
theorem rc_len (h : hasLen x = true) : RDc F K (fun xs H Q => ∃ x n, xs = [x] ∧ LenV K x H n ∧ Q (.int (n : Nat)) H) B [x] (.int (lenD x)) := rc_of fun H u hu => by
  cases hu with
  | str s hl => exact ⟨.int (s.length : Nat), fun _ => .int _, fun Q q => ⟨_, s.length, rfl, ⟨hl, rfl⟩, q⟩⟩
  | @lst a xs ds hs hl ha => exact ⟨.int (ds.length : Nat), fun _ => .int _, fun Q q => ⟨_, ds.length, rfl, .inl ⟨xs, sq_of hs, ha.len.symm⟩, q⟩⟩
  | @tup a xs ds hs hl ha => exact ⟨.int (ds.length : Nat), fun _ => .int _, fun Q q => ⟨_, ds.length, rfl, .inr ⟨xs, hs.sq, ha.len.symm⟩, q⟩⟩
  | _ => cases h
theorem rc_int1 : RDc F K (fun xs H Q => (∃ i, xs = [.int i] ∧ Q (.int i) H) ∨ ∃ k, xs = [.bl k] ∧ Q (.int (if k then 1 else 0)) H) B [.int i] (.int i) := rc_of fun H u hu => by
  cases hu
  exact ⟨.int i, fun _ => .int _, fun Q q => .inl ⟨i, rfl, q⟩⟩
theorem rc_intB {k : Bool} : RDc F K (fun xs H Q => (∃ i, xs = [.int i] ∧ Q (.int i) H) ∨ ∃ k, xs = [.bl k] ∧ Q (.int (if k then 1 else 0)) H) B [.bool k] (.int (if k then 1 else 0)) := rc_of fun H u hu => by
  cases hu
  exact ⟨.int (if k then 1 else 0), fun _ => .int _, fun Q q => .inr ⟨k, rfl, q⟩⟩
theorem rc_abs : RDc F K (fun xs H Q => ∃ i, xs = [.int i] ∧ Q (.int (if i < 0 then -i else i)) H) B [.int i] (.int (if i < 0 then -i else i)) := rc_of fun H u hu => by
  cases hu
  exact ⟨.int _, fun _ => .int _, fun Q q => ⟨i, rfl, q⟩⟩
theorem rc_str (hl : i.natAbs.log2 < 1920) (hz : (toString i : Str).length ≤ 16777216) : RDc F K (fun xs H Q => ∃ i : Int, xs = [.int i] ∧ i.natAbs.log2 < 1920 ∧ Q (.str (toString i)) H) B [.int i] (.str (toString i)) := rc_of fun H u hu => by
  cases hu
  exact ⟨.str _, fun _ => .str _ (by rw [sizeLine_eq]; exact hz), fun Q q => ⟨i, rfl, hl, q⟩⟩
/-- isinstance(x, T), T a built-in class -/
def tyD : PyData → String
  | .none => "NoneType"
  | .bool _ => "bool"
  | .int _ => "int"
  | .str _ => "str"
  | .list _ => "list"
  | .tuple _ => "tuple"
  | .dict _ => "dict"
def isIntD : PyData → Bool
  | .int _ => true
  | .bool _ => true
  | _ => false
def isBoolD : PyData → Bool
  | .bool _ => true
  | _ => false
def isStrD : PyData → Bool
  | .str _ => true
  | _ => false
def isTupD : PyData → Bool
  | .tuple _ => true
  | _ => false
def isLstD : PyData → Bool
  | .list _ => true
  | _ => false
theorem kit_int (d : PyData) : kitB (tyD d) "int" = some (isIntD d) := by
  cases d <;> (dsimp only [tyD, isIntD]; decide +kernel)
theorem kit_bool (d : PyData) : kitB (tyD d) "bool" = some (isBoolD d) := by
  cases d <;> (dsimp only [tyD, isBoolD]; decide +kernel)
theorem kit_str (d : PyData) : kitB (tyD d) "str" = some (isStrD d) := by
  cases d <;> (dsimp only [tyD, isStrD]; decide +kernel)
theorem kit_tup (d : PyData) : kitB (tyD d) "tuple" = some (isTupD d) := by
  cases d <;> (dsimp only [tyD, isTupD]; decide +kernel)
theorem kit_lst (d : PyData) : kitB (tyD d) "list" = some (isLstD d) := by
  cases d <;> (dsimp only [tyD, isLstD]; decide +kernel)
theorem tyX {H : Hp} {v : V} (h : Dd K H v d) : TyX K H v (.type (tyD d)) := by
  cases h with
  | non => exact .base .non
  | bl b => exact .base (.bl b)
  | int i => exact .base (.int i)
  | str x hl => exact .base (.str x)
  | lst hs hl ha => exact .base (.lst hs)
  | tup hs hl ha =>
    rcases hs with hs | ⟨o, its, n, hk, hc, _⟩
    · exact .base (.tup hs)
    · exact .kTuple hk hc
theorem ed_isi {σ : L2.St} {te : TE} {T : String} {b : Bool} (h : ED F K te σ B d) (hb : kitB (tyD d) T = some b) : ED F K (tCB (rIsi K) (tCons te (tCons (tC (.ty T)) tNil))) σ B (.bool b) := fun B1 e0 H jj Q q =>
  h B1 e0 H jj _ fun v B2 H2 s2 j2 g => ⟨v, .ty T, _, _, b, rfl, .ty T, tyX (Dd.up g s2.bh), kit_ty hb, q _ B2 H2 s2 j2 (.bl b)⟩
end

/-! ### where a def's body stands: behind the entry (B0, H0), at (B, H) -/
structure At (F : Fm) (B0 H0 B H : Hp) : Prop where
  st : Step F.M B0 H0 B H
  j : Ok F B H
theorem At.start {F : Fm} {B H : Hp} (k : Ok F B H) : At F B H B H := ⟨Step.refl k.e, k⟩
theorem At.next {F : Fm} {B0 H0 B H B1 H1 : Hp} (a : At F B0 H0 B H) (s : Step F.M B H B1 H1) (j : Ok F B1 H1) : At F B0 H0 B1 H1 := ⟨a.st.trans s, j⟩
theorem At.e {F : Fm} {B0 H0 B H : Hp} (a : At F B0 H0 B H) : Ex B H := a.st.bh
section
variable {F : Fm} {K : PySem.W.Frag} {σ : L2.St} {B0 H0 B H : Hp} {te ta tb tc : TE} {tas : TA} {t u : TT} {d x y z : PyData} {ds : List PyData} {b c : Bool} {D : Ends} {tz tu tw : TS} {i : Nat} {P : PV}
theorem sv_asg (a : At F B0 H0 B H) (h : EV F te σ B P) (k : ∀ v B1 H1, Ex B B1 → At F B0 H0 B1 H1 → P v B1 → D.nx (σ.set i (some v)) H1) : tAsg te (gName i) D σ H := h B (Ex.refl B) H a.j _ fun v B1 H1 s j p => k v B1 H1 s.bb (a.next s j) p
theorem qv_asg (a : At F B0 H0 B H) (h : EV F te σ B P) (k : ∀ v B1 H1, Ex B B1 → At F B0 H0 B1 H1 → P v B1 → tz D (σ.set i (some v)) H1) : tSeq (tAsg te (gName i)) tz D σ H := sv_asg (D := { D with nx := tz D }) a h k
theorem qv_drop (a : At F B0 H0 B H) (h : EV F te σ B P) (k : ∀ v B1 H1, Ex B B1 → At F B0 H0 B1 H1 → P v B1 → tz D σ H1) : tSeq (tDrop te) tz D σ H := h B (Ex.refl B) H a.j _ fun v B1 H1 s j p => k v B1 H1 s.bb (a.next s j) p
theorem sv_ret (a : At F B0 H0 B H) (h : EV F te σ B P) (k : ∀ v B1 H1, Ex B B1 → At F B0 H0 B1 H1 → P v B1 → D.rt v H1) : tRet te D σ H := h B (Ex.refl B) H a.j _ fun v B1 H1 s j p => k v B1 H1 s.bb (a.next s j) p
theorem sv_retL (a : At F B0 H0 B H) (h : EDs F K tas σ B ds) (k : ∀ vs B1 H1, Step F.M B H B1 H1 → Ok F B1 H1 → DdAll K B1 vs ds → vs.length ≤ sizeLine ∧ ∀ p, H1 p = none → D.rt (.ref p) (upd H1 p (.lst vs))) : tRet (tLst tas) D σ H := h B (Ex.refl B) H a.j _ fun vs B1 H1 s j g => k vs B1 H1 s j g
theorem sv_if (a : At F B0 H0 B H) (h : ETt F t σ B b) (h1 : b = true → ∀ B1 H1, Ex B B1 → At F B0 H0 B1 H1 → tu D σ H1) (h2 : b = false → ∀ B1 H1, Ex B B1 → At F B0 H0 B1 H1 → tw D σ H1) : tIfS t tu tw D σ H := h B (Ex.refl B) H a.j _ fun B1 H1 s j => by
  cases b with
  | true =>
    show tu D σ H1
    exact h1 rfl B1 H1 s.bb (a.next s j)
  | false =>
    show tw D σ H1
    exact h2 rfl B1 H1 s.bb (a.next s j)
theorem qv_if (a : At F B0 H0 B H) (h : ETt F t σ B b) (h1 : b = true → ∀ B1 H1, Ex B B1 → At F B0 H0 B1 H1 → tu { D with nx := tz D } σ H1) (h2 : b = false → ∀ B1 H1, Ex B B1 → At F B0 H0 B1 H1 → tw { D with nx := tz D } σ H1) : tSeq (tIfS t tu tw) tz D σ H := sv_if (D := { D with nx := tz D }) a h h1 h2
/-- if c: return .. (no else) -/
theorem qv_when (a : At F B0 H0 B H) (h : ETt F t σ B b) (h1 : b = true → ∀ B1 H1, Ex B B1 → At F B0 H0 B1 H1 → tu { D with nx := tz D } σ H1) (h2 : b = false → ∀ B1 H1, Ex B B1 → At F B0 H0 B1 H1 → tz D σ H1) : tSeq (tIfS t tu tNext) tz D σ H := qv_if a h h1 h2
end

/-! ### promises: data in, data out, nothing changed -/
/-- called with data ds that pre lets, it gives data f ds -/
def spF (K : PySem.W.Frag) (pre : List PyData → Prop) (f : List PyData → PyData) : Sp := fun vs H Q _ => ∃ (B : Hp) (ds : List PyData), Ex B H ∧ DdAll K B vs ds ∧ pre ds ∧ ∀ v B' H', Step (fun _ => False) B H B' H' → Dd K B' v (f ds) → Q v H'
theorem rc_F {F : Fm} {K : PySem.W.Frag} {pre : List PyData → Prop} {f : List PyData → PyData} {E : XK} {B : Hp} {ds : List PyData} {z : PyData} (h : pre ds) (e : f ds = z) : RDc F K (fun vs H Q => spF K pre f vs H Q E) B ds z := fun B1 e0 H us jj hu Q q =>
  ⟨B1, ds, jj.e, hu, h, fun v B' H' s g => q v B' H' s.pure (jj.pure s) (by rw [← e]; exact g)⟩
theorem ed_F {F : Fm} {K : PySem.W.Frag} {pre : List PyData → Prop} {f : List PyData → PyData} {E : XK} {B : Hp} {ds : List PyData} {z : PyData} {σ : L2.St} {tas : TA} (ha : EDs F K tas σ B ds) (h : pre ds) (e : f ds = z) : ED F K (tCall (spF K pre f) [] E tas) σ B z := ev_call ha (rc_F h e)
end Dx

/-! Exceptions of own classes that are held as values: made, their fields read, asked by isinstance; G.__init__(self, ..), G an own class over ValueError. -/
namespace Ex
open PySem PySem.Spec PyProof.Rows L2
section
variable {X : Cx} {CX : CXT} {G C : Addr} {mc : Value} {o e : Expr} {es : List Expr} {ta : TA} {te : TE} {g x f : Str} {p1 p2 pos p : Pos}
theorem pe_ginit {pl : Sem Bool} (r : ClX.CRead X.K G mc) (k : PySem.W.findCls X.K (.ref G) mc "__init__" = some (.val (.builtin "ValueError.__init__"))) (hg : Gl X g) (hm : X.mg g = some (.ref G)) (ha : PA X (e :: es) ta)
    (hgd : (g == ("__debug__" : Str)) = false := by decide)
    (hc : eval (.Call (.Attribute (.Name g p1) "__init__" p2) (e :: es) [] pos) X.env = (do
      let ov ← eval (.Name g p1) X.env
      standAt p2.atName
      let (f, first) ← holding [ov] (getMethod ov "__init__" pl)
      callWith pos f first (backTo pos (starEach (e :: es) X.env)) (backToKw pos (keywordEach [] X.env))) := by rfl)
    (he : starEach (e :: es) X.env = (false, eval e X.env) :: starEach es X.env := by rfl) (hpl : (backTo pos (starEach es X.env)).any (·.1) = false := by rfl) :
    PE X (.Call (.Attribute (.Name g p1) "__init__" p2) (e :: es) [] pos) (tVeI X.K ta) := by
  refine ⟨fun pins s σ H Q I h => ?_⟩
  refine PySem.W.methodCall_KW (ld_glob I hg hm ?_ hgd) hc
  refine PySem.W.method_cls I.kIn r.ga (PySem.W.cls_value I.kIn r.rd k rfl ?_)
  show wpAny _ _ (callWith pos (Value.builtin "ValueError.__init__") [] (backTo pos (starEach (e :: es) X.env)) []) _ _ _
  refine PyProof.Rows.callWith_method1 (thn (ha.run pos pins _ σ H _ (I.tok _) h) fun us s1 ⟨vs, H1, I1, r1, a, C, ws, ev, hl, T, ea, q⟩ => ?_) he hpl
  subst ev
  cases r1 with
  | @cons _ u0 _ ur ra rw' =>
    obtain rfl : u0 = Value.ref a := ra
    have hlen : ur.length ≤ sizeLine := by
      rw [← Paired.length rw', sizeLine_eq]
      omega
    exact oinit_ok T I1 ea hlen fun s' J => ⟨.non, H1, J, rfl, q⟩
/-- C(e, ..) as a value, C's own __init__ keeping sp: the exception stands at a -/
def tMkV (C : Addr) (sp : Sp) (dvs : List V) (ta : TA) : TE := fun σ H Q => ta σ H fun vs H1 => vs.length ≤ 1000 ∧ ∀ a, H1 a = none → sp (.ref a :: (vs ++ dvs)) (upd H1 a (exo a C none))
  (fun v H2 => v = .non ∧ Q (.ref a) H2) (fun _ _ _ => False)
theorem pe_mkv {C fI : Addr} {k : Nat} {fd : FuncData} {ps : List Str} {sp : Sp} {ds : List Value} {dvs : List V} (T : OexC X.K C) (iC : PySem.W.findIn X.K (.ref C) "__init__" = some (some (.ref fI))) (tI : PySem.W.typeIn X.K (.ref fI) = some (.type "function"))
    (F1 : FnOk X.prog X.w X.K X.mg X.base CX k fI fd ps sp) (hr : Room (k + 1) X.A) (hb : Binds X.K fd ps ds) (hd : Vals dvs ds) (hx : Passes CX X (fun _ _ _ => False)) (hg : Gl X x) (hm : X.mg x = some (.ref C)) (ha : PA X (e :: es) ta)
    (hdb : (x == ("__debug__" : Str)) = false := by decide) (he : starEach (e :: es) X.env = (false, eval e X.env) :: starEach es X.env := by rfl) (hpl : (backTo pos (starEach es X.env)).any (·.1) = false := by rfl) :
    PE X (.Call (.Name x p) (e :: es) [] pos) (tMkV C sp dvs ta) := by
  refine ⟨fun pins s σ H Q I h => ?_⟩
  obtain ⟨nm, q, N, bs, bm, sn, sub, ab, col, dd, k0, k1, k2, k3, k5, hC, hbm⟩ := T.cls
  refine wpAny_Call_Name_kw (ld_glob I hg hm ?_ hdb)
  refine PySem.W.callWith_K (h₀ := X.base) I.ok.mod.kin T.kC (thn (ha.run pos pins s σ H _ I h) fun us s1 ⟨vs, H1, I1, r1, hz, q1⟩ => ⟨I1.kIn, ?_⟩) he hpl
  show wpAny _ _ (call (.ref C) us) _ _ _
  obtain ⟨hp, g, dr, tk, os⟩ := s1
  have hsz : hp.objs.size ≤ hp.objs.size + 1 := Nat.le_succ _
  have hn : H1 (hp.objs.size + 1) = none := I1.hok.fresh hsz
  have hq := q1 (hp.objs.size + 1) hn
  have kk : ∀ b o, hp.get? b = some o → ((hp.push (PySem.W.kdv_tup us)).push (PySem.HandSPX.excO C hp.objs.size)).get? b = some o := fun b o e => Heap.get?_push_of_some _ (Heap.get?_push_of_some _ e)
  have hget : ((hp.push (PySem.W.kdv_tup us)).push (PySem.HandSPX.excO C hp.objs.size)).get? (hp.objs.size + 1) = some (PySem.HandSPX.excO C hp.objs.size) := by heap_get
  have I2 : Inv X pins σ (upd H1 (hp.objs.size + 1) (exo (hp.objs.size + 1) C none)) ⟨(hp.push (PySem.W.kdv_tup us)).push (PySem.HandSPX.excO C hp.objs.size), g, dr, tk, os⟩ :=
    I1.laid (t' := tk) (a := hp.objs.size + 1) (o := exo (hp.objs.size + 1) C none) (h' := (hp.push (PySem.W.kdv_tup us)).push (PySem.HandSPX.excO C hp.objs.size)) kk hsz (exo_ok hget)
  have r2 : Vals (V.ref (hp.objs.size + 1) :: (vs ++ dvs)) (Value.ref (hp.objs.size + 1) :: (us ++ ds)) := .cons rfl (r1.append hd)
  have hl : (Value.ref (hp.objs.size + 1) :: us ++ ds).length = ps.length := by
    have e := r2.length
    rw [F1.len _ _ _ _ hq] at e
    exact e.symm
  have hus : us.length ≤ sizeLine := by
    rw [← Paired.length r1, sizeLine_eq]
    omega
  refine wpAny_call (PySem.HandSPX.call_own F.excBase_ValueError (fun Y => PySem.HandSPX.refsVE_contains Y bm hbm) (I1.kIn _ _ hC) (PySem.W.looks_findIn I1.kIn iC) (fun self => PySem.W.bind_fn I1.kIn self tI) hus
    (codeAny_mono (F1.run _ X.stack _ _ ⟨Value.ref (hp.objs.size + 1) :: us, []⟩ (Value.ref (hp.objs.size + 1) :: (us ++ ds)) _ _ (fun _ _ _ => False) (hr.make C us []) (I2.env0.make C us []) (hb _ (Value.ref (hp.objs.size + 1) :: us) I2.kIn hl) r2 hq) fun r s' hq' => ?_))
  cases r with
  | error er => exact hx pins σ _ _ er s' I2 hq'
  | ok fl =>
    cases fl with
    | ret u =>
      obtain ⟨v, H2, I3, rv, ev, q2⟩ := I2.after hq'
      subst ev
      exact ⟨rv, ⟨V.ref (hp.objs.size + 1), H2, I3, rfl, q2⟩⟩
    | next => exact False.elim hq'
    | brk => exact False.elim hq'
    | cont => exact False.elim hq'
/-- e.f, e an exception that is held as a value -/
def tOxf (K : PySem.W.Frag) (f : Str) (te : TE) : TE := fun σ H Q => te σ H fun x H1 => ∃ (a C d : Addr) (fs : List (Str × V)) (v : V), x = .ref a ∧ H1 a = some (exo a C (some d)) ∧ H1 d = some (exd d fs) ∧ XfC K C ∧ PySem.W.findIn K (.ref C) f = some none ∧ fs.lookup f = some v ∧ Q v H1
theorem pe_oxf (he : PE X e te) (hb : attributeBase e f X.env (eval e X.env) = eval e X.env := by rfl) : PE X (.Attribute e f pos) (tOxf X.K f te) := by
  refine ⟨fun pins s σ H Q I h => ?_⟩
  refine attr_of hb (thn (he.run pins s σ H _ I h) fun u s1 hh => ?_)
  obtain ⟨x, H1, I1, rx, a, C, dd, fs, v, ex, ea, ed, T, hno, l, q⟩ := hh
  subst ex
  obtain rfl : u = Value.ref a := rx
  obtain ⟨t1, ha⟩ := exo_at I1.hok ea
  obtain ⟨mA, hns, hr⟩ := exd_at I1.hok ed
  obtain ⟨od, ho, hl⟩ := lookIn_ns hns
  obtain ⟨u, hu, ru⟩ := RelO.some_of (v := v) (o := mA f) (by rw [← l]; exact hr f)
  have J : PySem.W.InstAt s1.heap a _ C (some od) := ⟨ha, rfl, rfl, ho⟩
  exact HandSPX.exc_get I1.kIn J T.ga T.gg T.exC (PySem.W.findObj_own T.hdC hno rfl (by rw [hl, hu])) (handed_of ru) ⟨v, H1, I1.tok _, ru, q⟩
/-- what the class C must say, so that isinstance asks its instances rightly -/
structure IsC (K : PySem.W.Frag) (C : Addr) : Prop where
  hc : (PySem.W.clsIn K C).isSome = true
  ha : PySem.W.findIn K (.ref C) "__class__" = some (some (.builtin "object.__class__"))
  hn : PySem.W.specialIn K (.builtin "object.__class__") "__get__" = some (some (.builtin "getset_descriptor.__get__"))
  ht : PySem.W.takesIn K (.builtin "object.__class__") = some true
  hm : PySem.W.mroIn K C (.type "object") = some true
def isCB (K : PySem.W.Frag) (C : Addr) : Bool := (PySem.W.clsIn K C).isSome && (decide (PySem.W.findIn K (.ref C) "__class__" = some (some (.builtin "object.__class__"))) && (decide (PySem.W.specialIn K (.builtin "object.__class__") "__get__" = some (some (.builtin "getset_descriptor.__get__"))) && (decide (PySem.W.takesIn K (.builtin "object.__class__") = some true) && decide (PySem.W.mroIn K C (.type "object") = some true))))
theorem isCB_ok {K : PySem.W.Frag} {C : Addr} (h : isCB K C = true) : IsC K C := by
  obtain ⟨h1, h⟩ := Bool.and_eq_true_iff.mp h
  obtain ⟨h2, h⟩ := Bool.and_eq_true_iff.mp h
  obtain ⟨h3, h⟩ := Bool.and_eq_true_iff.mp h
  obtain ⟨h4, h5⟩ := Bool.and_eq_true_iff.mp h
  exact ⟨h1, of_decide_eq_true h2, of_decide_eq_true h3, of_decide_eq_true h4, of_decide_eq_true h5⟩
/-- isinstance(e, c), e an exception that is held as a value -/
def rIsX (K : PySem.W.Frag) : List V → Hp → VK → Prop := fun xs H Q => ∃ (a C d : Addr) (fs : List (Str × V)) (c : V) (cv : Value) (b : Bool), xs = [.ref a, c] ∧ H a = some (exo a C (some d)) ∧ H d = some (exd d fs) ∧ XfC K C ∧ IsC K C ∧ ClsV c cv ∧ PySem.W.kitOne K (.ref C) cv = some b ∧ Q (.bl b) H
theorem call_isX : CallR X (.builtin "isinstance") (rIsX X.K) := by
  intro pins s σ H xs us Q I r h
  obtain ⟨a, C, d, fs, c, cv, b, rfl, ea, ed, T, Z, hcv, e, q⟩ := h
  obtain ⟨u1, u2, rfl, r1, r2⟩ := vals2 r
  have e2 := hcv.eq r2
  subst e2
  obtain rfl : u1 = Value.ref a := r1
  obtain ⟨t1, ha⟩ := exo_at I.hok ea
  obtain ⟨mA, hns, hr⟩ := exd_at I.hok ed
  obtain ⟨od, ho, hl⟩ := lookIn_ns hns
  have J : PySem.W.InstAt s.heap a _ C (some od) := ⟨ha, rfl, rfl, ho⟩
  exact PySem.W.kia_one (PySem.W.kitx_exc Z.hc T.ga T.gg T.exC Z.ha Z.hn Z.ht Z.hm) I.kIn J e (fun z => nomatch z) fun tk => ⟨.bl b, H, I.tok tk, rfl, q⟩
/-- isinstance(e, c), e the exception that the suite holds (its own dict at d) -/
def rIsS (K : PySem.W.Frag) (D a : Addr) : List V → Hp → VK → Prop := fun xs H Q => ∃ (c : V) (cv : Value) (b : Bool), xs = [.ref a, c] ∧ ClsV c cv ∧ PySem.W.kitOne K (.ref D) cv = some b ∧ Q (.bl b) H
/-- .. with an own dict -/
def rIsSd (K : PySem.W.Frag) (a : Addr) (cls : Value) (d : Option Addr) : List V → Hp → VK → Prop := fun xs H Q => ∃ (D dd : Addr) (fs : List (Str × V)) (c : V) (cv : Value) (b : Bool), xs = [.ref a, c] ∧ cls = .ref D ∧ d = some dd ∧ H dd = some (.xd fs) ∧ XfC K D ∧ IsC K D ∧ ClsV c cv ∧ PySem.W.kitOne K (.ref D) cv = some b ∧ Q (.bl b) H
theorem call_isSd {a : Addr} {oe : Obj} {cls : Value} {d : Option Addr} {pn : List (Addr × Obj)} (hz : Zc cls d oe) (hf : ∃ vs, oe.data = .fields vs) : CallR (X.suite a ((a, oe) :: pn)) (.builtin "isinstance") (rIsSd X.K a cls d) := by
  intro pins s σ H xs us Q I r h
  obtain ⟨D, dd, fs, c, cv, b, rfl, ec, ed, hd, T, Z, hcv, e, q⟩ := h
  obtain ⟨u1, u2, rfl, r1, r2⟩ := vals2 r
  have e2 := hcv.eq r2
  subst e2
  obtain rfl : u1 = Value.ref a := r1
  subst ec
  subst ed
  obtain ⟨hget, _⟩ := I.pin (a, oe) (List.mem_append_left _ List.mem_cons_self)
  obtain ⟨vs, hv⟩ := hf
  have hx : ObjOk X.prog X.w H s.heap dd (.xd fs) := I.hok dd _ hd
  obtain ⟨mA, hns, hr⟩ := hx
  obtain ⟨od, ho, hl⟩ := lookIn_ns hns
  have J : PySem.W.InstAt s.heap a oe D (some od) := ⟨hget, hz.1, by unfold PySem.W.notCls; rw [hv] <;> rfl, by rw [hz.2]; exact ho⟩
  exact PySem.W.kia_one (PySem.W.kitx_exc Z.hc T.ga T.gg T.exC Z.ha Z.hn Z.ht Z.hm) I.kIn J e (fun z => nomatch z) fun tk => ⟨.bl b, H, I.kept (t' := tk) fun _ _ z => z, rfl, q⟩
end
end Ex

/-! Loops and comprehensions over data. -/
namespace Dx
open PySem PySem.Spec PyProof.Rows L2 Evl

/-! ### a list or a tuple walked -/
def iSeq (K : PySem.W.Frag) (tl : TE) : TI := fun σ H R => tl σ H fun x H1 => ∃ a, x = .ref a ∧ (((∃ xs, SqL K H1 a xs) ∧ R (Itl K a) H1) ∨ ((∃ xs, SqT K H1 a xs) ∧ R (Itt K a) H1))
theorem pi_seq {X : Cx} {tg l : Expr} {tl : TE} (hl : PE X l tl) : PI X tg l (iSeq X.K tl) := by
  refine ⟨fun pins s σ H R I h => ?_⟩
  refine thn (hl.run pins s σ H _ I h) fun v s1 ⟨x, H1, I1, r1, q1⟩ => ?_
  obtain ⟨a, e, q⟩ := q1
  subst e
  cases r1
  rcases q with ⟨⟨xs, hq⟩, q⟩ | ⟨⟨xs, hq⟩, q⟩
  · obtain ⟨its, rv, p, hz⟩ := I1.list hq
    refine wpAny_pyIter_list p.isList ?_
    refine ⟨s1.heap.objs.size, [s1.heap.objs.size], _, _, H1, rfl, I1.kept (t' := s1.toks) fun b o e => Heap.get?_push_of_some _ e, turn_list a _, ⟨_, Heap.get?_push_size _ rfl, rfl, rfl⟩, fun b hb => ?_, q⟩
    have e : b = s1.heap.objs.size := by simpa using hb
    subst e
    exact I1.fpOk (Nat.le_refl _) (I1.hok.fresh (Nat.le_refl _))
  · obtain ⟨its, rv, p, hz⟩ := I1.tuple hq
    refine wpAny_pyIter_tuple (show s1.heap.IsTuple a its.toArray from p) ?_
    refine ⟨s1.heap.objs.size, [s1.heap.objs.size], _, _, H1, rfl, I1.kept (t' := s1.toks) fun b o e => Heap.get?_push_of_some _ e, turn_tuple a _, ⟨_, Heap.get?_push_size _ rfl, rfl, rfl⟩, fun b hb => ?_, q⟩
    have e : b = s1.heap.objs.size := by simpa using hb
    subst e
    exact I1.fpOk (Nat.le_refl _) (I1.hok.fresh (Nat.le_refl _))
/-- a value that is a list or tuple of items of which Ps holds -/
def SqV (K : PySem.W.Frag) (Ps : List V → Hp → Prop) : PV := fun v B => ∃ l vs, v = .ref l ∧ (SqL K B l vs ∨ SqT K B l vs) ∧ Ps vs B
theorem sqv_lst {K : PySem.W.Frag} {B : Hp} {v : V} {ds : List PyData} (h : Dd K B v (.list ds)) : SqV K (DDs K ds) v B := by
  obtain ⟨a, xs, rfl, h1, l1, g1⟩ := dd_lst h
  exact ⟨a, xs, rfl, .inl (sq_of h1), g1⟩
theorem sqv_tup {K : PySem.W.Frag} {B : Hp} {v : V} {ds : List PyData} (h : Dd K B v (.tuple ds)) : SqV K (DDs K ds) v B := by
  obtain ⟨a, xs, rfl, h1, l1, g1⟩ := dd_tup h
  exact ⟨a, xs, rfl, .inr h1, g1⟩

section
variable {F : Fm} {K : PySem.W.Frag} {σ : L2.St} {B0 H0 B H : Hp} {D : Ends} {tb tz : TS} {tl te : TE} {tt : TT} {j : Nat} {ds : List PyData} {Ps : List V → Hp → Prop}
theorem ev_seqL (h : ED F K tl σ B (.list ds)) : EV F tl σ B (SqV K (DDs K ds)) := h.imp fun _ _ _ p => sqv_lst p
theorem ev_seqT (h : ED F K tl σ B (.tuple ds)) : EV F tl σ B (SqV K (DDs K ds)) := h.imp fun _ _ _ p => sqv_tup p
/-- where a loop's turn stands -/
def Lp (F : Fm) (B0 H0 B : Hp) (I : L2.St → Hp → Prop) : L2.St → Hp → Prop := fun σ' H' => ∃ B', Ex B B' ∧ At F B0 H0 B' H' ∧ I σ' B'
theorem sv_for (a : At F B0 H0 B H) (h : EV F tl σ B (SqV K Ps)) (n : Nat) (hn : ∀ vs B1, Ps vs B1 → vs.length = n) (hu : Upcs Ps) (I : Nat → L2.St → Hp → Prop) (h0 : ∀ B1, Ex B B1 → I 0 σ B1)
    (hs : ∀ Bb i v vs σ' B1 H1, Ex B Bb → vs[i]? = some v → Ps vs B1 → Ex Bb B1 → At F B0 H0 B1 H1 → I i σ' B1 → tb { D with nx := Lp F B0 H0 Bb (I (i + 1)), ct := Lp F B0 H0 Bb (I (i + 1)), bk := D.nx } (σ'.set j (some v)) H1)
    (hd : ∀ σ' B1 H1, Ex B B1 → At F B0 H0 B1 H1 → I n σ' B1 → D.nx σ' H1) : tFor (iSeq K tl) (gName j) tb D σ H := by
  refine h B (Ex.refl B) H a.j _ fun v B1 H1 s1 j1 p => ?_
  obtain ⟨l, vs, rfl, hl, ps⟩ := p
  have a1 := a.next s1 j1
  have en := hn vs B1 ps
  refine ⟨l, rfl, ?_⟩
  rcases hl with hl | hl
  · refine .inl ⟨⟨vs, ex_l j1.e hl⟩, for_list (K := K) (xs := vs) (fun i => Lp F B0 H0 B1 (I i)) ⟨B1, Ex.refl B1, a1, h0 B1 s1.bb⟩ (fun i σ' H' _ ⟨B', e, a', _⟩ => ex_l a'.e (ex_l e hl)) (fun i x σ' H' hx ⟨B', e, a', hi⟩ => ?_) (fun σ' H' ⟨B', e, a', hi⟩ => hd σ' B' H' (s1.bb.trans e) a' (en ▸ hi))⟩
    exact hs B1 i x vs σ' B' H' s1.bb hx (hu _ _ _ e ps) e a' hi
  · refine .inr ⟨⟨vs, ex_t j1.e hl⟩, for_tup (K := K) (xs := vs) (fun i => Lp F B0 H0 B1 (I i)) ⟨B1, Ex.refl B1, a1, h0 B1 s1.bb⟩ (fun i σ' H' _ ⟨B', e, a', _⟩ => ex_t a'.e (ex_t e hl)) (fun i x σ' H' hx ⟨B', e, a', hi⟩ => ?_) (fun σ' H' ⟨B', e, a', hi⟩ => hd σ' B' H' (s1.bb.trans e) a' (en ▸ hi))⟩
    exact hs B1 i x vs σ' B' H' s1.bb hx (hu _ _ _ e ps) e a' hi
theorem qv_for (a : At F B0 H0 B H) (h : EV F tl σ B (SqV K Ps)) (n : Nat) (hn : ∀ vs B1, Ps vs B1 → vs.length = n) (hu : Upcs Ps) (I : Nat → L2.St → Hp → Prop) (h0 : ∀ B1, Ex B B1 → I 0 σ B1)
    (hs : ∀ Bb i v vs σ' B1 H1, Ex B Bb → vs[i]? = some v → Ps vs B1 → Ex Bb B1 → At F B0 H0 B1 H1 → I i σ' B1 → tb { D with nx := Lp F B0 H0 Bb (I (i + 1)), ct := Lp F B0 H0 Bb (I (i + 1)), bk := tz D } (σ'.set j (some v)) H1)
    (hd : ∀ σ' B1 H1, Ex B B1 → At F B0 H0 B1 H1 → I n σ' B1 → tz D σ' H1) : tSeq (tFor (iSeq K tl) (gName j) tb) tz D σ H := sv_for (D := { D with nx := tz D }) a h n hn hu I h0 hs hd
/-- over data -/
theorem qd_for (a : At F B0 H0 B H) (h : EV F tl σ B (SqV K (DDs K ds))) (I : Nat → L2.St → Hp → Prop) (h0 : ∀ B1, Ex B B1 → I 0 σ B1)
    (hs : ∀ Bb i v d σ' B1 H1, Ex B Bb → ds[i]? = some d → Dd K B1 v d → Ex Bb B1 → At F B0 H0 B1 H1 → I i σ' B1 → tb { D with nx := Lp F B0 H0 Bb (I (i + 1)), ct := Lp F B0 H0 Bb (I (i + 1)), bk := tz D } (σ'.set j (some v)) H1)
    (hd : ∀ σ' B1 H1, Ex B B1 → At F B0 H0 B1 H1 → I ds.length σ' B1 → tz D σ' H1) : tSeq (tFor (iSeq K tl) (gName j) tb) tz D σ H :=
  qv_for a h ds.length (fun vs B1 p => DdAll.len p) upc_dds I h0 (fun Bb i v vs σ' B1 H1 e0 hv ps e a' hi => by
    obtain ⟨d, h1, h2⟩ := DdAll.getv (show DdAll K B1 vs ds from ps) hv
    exact hs Bb i v d σ' B1 H1 e0 h1 h2 e a' hi) hd
/-- over range(n) -/
theorem qd_forR {ta : TA} {n : Int} (a : At F B0 H0 B H) (h : EDs F K ta σ B [.int n]) (hn : -4611686018427387904 ≤ n ∧ n < 4611686018427387904) (I : Nat → L2.St → Hp → Prop) (h0 : ∀ B1, Ex B B1 → I 0 σ B1)
    (hs : ∀ Bb (i : Nat) σ' B1 H1, Ex B Bb → (i : Int) < n → Ex Bb B1 → At F B0 H0 B1 H1 → I i σ' B1 → tb { D with nx := Lp F B0 H0 Bb (I (i + 1)), ct := Lp F B0 H0 Bb (I (i + 1)), bk := tz D } (σ'.set j (some (.int (i : Int)))) H1)
    (hd : ∀ σ' B1 H1, Ex B B1 → At F B0 H0 B1 H1 → I n.toNat σ' B1 → tz D σ' H1) : tSeq (tFor (iRng1 ta) (gName j) tb) tz D σ H := by
  refine h B (Ex.refl B) H a.j _ fun vs B1 H1 s1 j1 p => ?_
  have a1 := a.next s1 j1
  cases p with
  | cons p t =>
    cases t
    obtain rfl := dd_int p
    refine ⟨n, rfl, hn.1, hn.2, for_range (lo := 0) (n := n.toNat) (D := { D with nx := tz D }) (fun i => Lp F B0 H0 B1 (I i)) ⟨B1, Ex.refl B1, a1, h0 B1 s1.bb⟩ (fun i σ' H' hx ⟨B', e, a', hi⟩ => ?_) (fun σ' H' ⟨B', e, a', hi⟩ => hd σ' B' H' (s1.bb.trans e) a' hi)⟩
    have e0 : (0 : Int) + (i : Int) = (i : Int) := Int.zero_add _
    show tb _ (σ'.set j (some (.int ((0 : Int) + (i : Int))))) H'
    rw [e0]
    exact hs B1 i σ' B' H' s1.bb (by omega) e a' hi
/-- while -/
theorem qv_while {t : TT} (a : At F B0 H0 B H) (W : Nat → L2.St → Hp → Prop) (m0 : Nat) (h0 : W m0 σ B)
    (hs : ∀ m σ' B1 H1, Ex B B1 → At F B0 H0 B1 H1 → W m σ' B1 → ∃ b, ETt F t σ' B1 b ∧ (b = true → ∀ B2 H2, Ex B1 B2 → At F B0 H0 B2 H2 → tb { D with nx := fun σ2 H3 => ∃ m', m' < m ∧ Lp F B0 H0 B (W m') σ2 H3, ct := fun σ2 H3 => ∃ m', m' < m ∧ Lp F B0 H0 B (W m') σ2 H3, bk := tz D } σ' H2) ∧
      (b = false → ∀ B2 H2, Ex B1 B2 → At F B0 H0 B2 H2 → tz D σ' H2)) : tSeq (tWhile t tb) tz D σ H := by
  refine ⟨fun m => Lp F B0 H0 B (W m), ⟨m0, B, Ex.refl B, a, h0⟩, fun m σ' H' ⟨B1, e, a1, hw⟩ => ?_⟩
  obtain ⟨b, hb, h1, h2⟩ := hs m σ' B1 H' e a1 hw
  refine hb B1 (Ex.refl B1) H' a1.j _ fun B2 H2 s2 j2 => ?_
  cases b with
  | true => exact ⟨_, fun σ2 H3 q => q, h1 rfl B2 H2 s2.bb (a1.next s2 j2)⟩
  | false => exact h2 rfl B2 H2 s2.bb (a1.next s2 j2)
end

/-! ### comprehensions -/
section
variable {F : Fm} {K : PySem.W.Frag} {σ : L2.St} {B : Hp} {tl te : TE} {tt : TT} {j : Nat} {ds : List PyData} {vsN : List Nat}
/-- the list that grows at Dl; B1, H1: ahead of it -/
def Cq (F : Fm) (K : PySem.W.Frag) (B1 H1 : Hp) (Dl : Addr) (ds : List PyData) (H' : Hp) : Prop := ∃ B' acc, Step F.M B1 H1 B' H' ∧ Ok F B' H' ∧ B' Dl = none ∧ H' Dl = some (.lst acc) ∧ DdAll K B' acc ds
theorem cq_start {B1 H1 : Hp} {Dl : Addr} (k : Ok F B1 H1) (hD : H1 Dl = none) : Cq F K B1 H1 Dl [] (upd H1 Dl (.lst [])) := by
  have hb : B1 Dl = none := fresh_back k.e hD
  have s : Step F.M B1 H1 B1 (upd H1 Dl (.lst [])) := ⟨Ex.refl B1, fun a o h => by rw [upd_ne (ne_of_none h hb)]; exact k.e a o h, fun a o _ h => by rw [upd_ne (ne_of_none h hD)]; exact h, fun a h _ => h, fun a n => by
    have ha : a ≠ Dl := fun z => n (z ▸ hD)
    rw [upd_ne ha]
    exact n, fun a n => n.upd fun z => n.ne (z ▸ hD)⟩
  exact ⟨B1, [], s, k.next s (F.up _ _ (Ex.new hD) k.j), hb, upd_same, .nil⟩
/-- one item more -/
theorem cq_more {B1 H1 B' H' : Hp} {Dl : Addr} {acc : List V} {d : PyData} {ds : List PyData} {y : V} (hD : H1 Dl = none) (k1 : Ok F B1 H1) (s : Step F.M B1 H1 B' H') (k : Ok F B' H') (hb : B' Dl = none) (hd : H' Dl = some (.lst acc)) (ha : DdAll K B' acc ds) (hy : Dd K B' y d) :
    Cq F K B1 H1 Dl (ds ++ [d]) (upd H' Dl (.lst (acc ++ [y]))) := by
  have nm : ¬ F.M Dl := fun m => (F.lv H1 Dl k1.j m).ne hD
  have s2 : Step F.M B1 H1 B' (upd H' Dl (.lst (acc ++ [y]))) := ⟨s.bb, fun a o h => by rw [upd_ne (ne_of_none h hb)]; exact k.e a o h, fun a o n h => by rw [upd_ne (ne_of_none h hD)]; exact s.keep a o n h, s.sep, fun a n => by
    have ha : a ≠ Dl := fun z => n (z ▸ hD)
    rw [upd_ne ha]
    exact s.live a n, fun a n => (s.liv a n).upd fun z => n.ne (z ▸ hD)⟩
  have j2 : F.J (upd H' Dl (.lst (acc ++ [y]))) := by
    -- J holds of H' and of what stands in it: the new list is none of M
    exact F.fr H' Dl _ k.j nm
  exact ⟨B', acc ++ [y], s2, k1.next s2 j2, hb, upd_same, ha.snoc hy⟩
/-- what stands is data -/
theorem cq_done {B1 H1 H' : Hp} {Dl : Addr} {ds : List PyData} (k1 : Ok F B1 H1) (hD : H1 Dl = none) (hl : ds.length ≤ 16777216) (c : Cq F K B1 H1 Dl ds H') : ∃ B2, Step F.M B1 H1 B2 H' ∧ Ok F B2 H' ∧ Dd K B2 (.ref Dl) (.list ds) := by
  obtain ⟨B', acc, s, k, hb, hd, ha⟩ := c
  have s2 : Step F.M B1 H1 (upd B' Dl (.lst acc)) H' := ⟨s.bb.trans (Ex.new hb), fun a o h => by
    by_cases e : a = Dl
    · subst e
      rw [upd_same] at h
      rw [hd]
      exact h
    · rw [upd_ne e] at h
      exact k.e a o h, s.keep, fun a h n => by
    have e : a ≠ Dl := fun z => n.ne (z ▸ hD)
    rw [upd_ne e]
    exact s.sep a h n, s.live, s.liv⟩
  exact ⟨_, s2, k1.next s2 k.j, .lst upd_same (by rw [ha.len, sizeLine_eq]; exact hl) (ha.up (Ex.new hb))⟩
/-- one turn, with its test -/
theorem cq_turn {B1 H1 H' : Hp} {Dl : Addr} {acc0 : List PyData} {σ2 : L2.St} {bb : Bool} {d : PyData} (k1 : Ok F B1 H1) (hD : H1 Dl = none) (hl : acc0.length < 16777216) (c : Cq F K B1 H1 Dl acc0 H')
    (ht : ∀ B', Ex B1 B' → ETt F tt σ2 B' bb) (he : bb = true → ∀ B', Ex B1 B' → ED F K te σ2 B' d) :
    tt σ2 H' fun b H3 => if b = true then te σ2 H3 fun y H4 => ∃ acc, H4 Dl = some (.lst acc) ∧ acc.length < sizeLine ∧ Cq F K B1 H1 Dl (acc0 ++ (if bb = true then [d] else [])) (upd H4 Dl (.lst (acc ++ [y]))) else Cq F K B1 H1 Dl (acc0 ++ (if bb = true then [d] else [])) H3 := by
  obtain ⟨B', acc, s, k, hb, hd, ha⟩ := c
  have nm : ¬ F.M Dl := fun m => (F.lv H1 Dl k1.j m).ne hD
  have lv : Liv H' Dl := ⟨_, hd, trivial⟩
  refine ht B' s.bb B' (Ex.refl B') H' k _ fun B3 H3 s3 k3 => ?_
  have hb3 := s3.sep Dl hb lv
  have hd3 := s3.keep Dl _ nm hd
  cases bb with
  | true =>
    show te σ2 H3 _
    refine he rfl B3 (s.bb.trans s3.bb) B3 (Ex.refl B3) H3 k3 _ fun y B4 H4 s4 k4 g => ?_
    have lv3 : Liv H3 Dl := s3.liv Dl lv
    refine ⟨acc, s4.keep Dl _ nm hd3, ?_, ?_⟩
    · rw [ha.len, sizeLine_eq]
      exact hl
    · exact cq_more hD k1 ((s.trans s3).trans s4) k4 (s4.sep Dl hb3 lv3) (s4.keep Dl _ nm hd3) (ha.up (s3.bb.trans s4.bb)) g
  | false =>
    show Cq F K B1 H1 Dl (acc0 ++ []) H3
    rw [List.append_nil]
    exact ⟨B3, acc, s.trans s3, k3, hb3, hd3, ha.up s3.bb⟩
theorem filter_snoc {α : Type} (p : α → Bool) (g : α → PyData) (l : List α) (x : α) : ((l ++ [x]).filter p).map g = (l.filter p).map g ++ (if p x = true then [g x] else []) := by
  rw [List.filter_append, List.map_append]
  congr 1
  by_cases h : p x = true
  · rw [if_pos h, List.filter_cons, if_pos h]
    rfl
  · rw [if_neg h, List.filter_cons, if_neg h]
    rfl
theorem take_snoc {α : Type} {l : List α} {i : Nat} {x : α} (h : l[i]? = some x) : l.take (i + 1) = l.take i ++ [x] := by
  rw [List.take_add_one, h]
  rfl
/-- [te for x in a list or tuple of data if tt] -/
theorem ed_lcD (p : PyData → Bool) (g : PyData → PyData) (h : EV F tl σ B (SqV K (DDs K ds))) (hz : ds.length ≤ 16777216) (hw : ∀ x, wipe ((wipe σ vsN).set j (some x)) vsN = wipe σ vsN)
    (ht : ∀ d v B1, d ∈ ds → Ex B B1 → Dd K B1 v d → ETt F tt ((wipe σ vsN).set j (some v)) B1 (p d))
    (he : ∀ d v B1, d ∈ ds → p d = true → Ex B B1 → Dd K B1 v d → ED F K te ((wipe σ vsN).set j (some v)) B1 (g d)) :
    ED F K (tLc (iSeq K tl) (gName j) tt te vsN) σ B (.list ((ds.filter p).map g)) := fun B0 e0 H0 k0 Q q => by
  refine h B0 e0 H0 k0 _ fun v B1 H1 s1 k1 pv => ?_
  obtain ⟨l, vs, rfl, hl, ps⟩ := pv
  have ps' : DdAll K B1 vs ds := ps
  have en := ps'.len
  have fl : ∀ i, ((ds.take i).filter p).length ≤ i := fun i => Nat.le_trans (List.length_filter_le _ _) (by rw [List.length_take]; exact Nat.min_le_left _ _)
  have turn : ∀ (Dl : Addr), H1 Dl = none → ∀ i x H', vs[i]? = some x → Cq F K B1 H1 Dl (((ds.take i).filter p).map g) H' → gName j x (wipe σ vsN) H' fun σ2 H2 => wipe σ2 vsN = wipe σ vsN ∧ tt σ2 H2 fun b H3 =>
      if b = true then te σ2 H3 fun y H4 => ∃ acc, H4 Dl = some (.lst acc) ∧ acc.length < sizeLine ∧ Cq F K B1 H1 Dl (((ds.take (i + 1)).filter p).map g) (upd H4 Dl (.lst (acc ++ [y]))) else Cq F K B1 H1 Dl (((ds.take (i + 1)).filter p).map g) H3 := by
    intro Dl hD i x H' hx c
    obtain ⟨d, hd, hdv⟩ := ps'.getv hx
    have hm : d ∈ ds := List.mem_of_getElem? hd
    have hi : i < ds.length := (List.getElem?_eq_some_iff.mp hd).1
    refine ⟨hw x, ?_⟩
    rw [take_snoc hd, filter_snoc]
    exact cq_turn k1 hD (by rw [List.length_map]; exact Nat.lt_of_le_of_lt (fl i) (by omega)) c (fun B' e => ht d x B' hm ((e0.trans s1.bb).trans e) (hdv.up e)) (fun hp B' e => he d x B' hm hp ((e0.trans s1.bb).trans e) (hdv.up e))
  have fin : ∀ (Dl : Addr), H1 Dl = none → ∀ H', Cq F K B1 H1 Dl (((ds.take vs.length).filter p).map g) H' → Q (.ref Dl) H' := by
    intro Dl hD H' c
    rw [en, List.take_length] at c
    obtain ⟨B2, s2, k2, g2⟩ := cq_done k1 hD (by rw [List.length_map]; exact Nat.le_trans (List.length_filter_le _ _) hz) c
    exact q _ B2 H' (s1.trans s2) k2 g2
  refine ⟨l, rfl, ?_⟩
  rcases hl with hl | hl
  · refine .inl ⟨⟨vs, ex_l k1.e hl⟩, fun Dl hD => lc_list (K := K) (xs := vs) (fun i => Cq F K B1 H1 Dl (((ds.take i).filter p).map g)) (cq_start k1 hD) (fun i H' _ c => ?_) (fun i x H' hx c => turn Dl hD i x H' hx c) (fun H' c => fin Dl hD H' c)⟩
    obtain ⟨B', acc, s, k, _⟩ := c
    exact ex_l k.e (ex_l s.bb hl)
  · refine .inr ⟨⟨vs, ex_t k1.e hl⟩, fun Dl hD => lc_tup (K := K) (xs := vs) (fun i => Cq F K B1 H1 Dl (((ds.take i).filter p).map g)) (cq_start k1 hD) (fun i H' _ c => ?_) (fun i x H' hx c => turn Dl hD i x H' hx c) (fun H' c => fin Dl hD H' c)⟩
    obtain ⟨B', acc, s, k, _⟩ := c
    exact ex_t k.e (ex_t s.bb hl)
/-- [te for i in range(n) if tt] -/
theorem ed_lcR {ta : TA} {n : Int} (p : Nat → Bool) (g : Nat → PyData) (h : EDs F K ta σ B [.int n]) (hn : -4611686018427387904 ≤ n ∧ n ≤ 16777216) (hw : ∀ x, wipe ((wipe σ vsN).set j (some x)) vsN = wipe σ vsN)
    (ht : ∀ (i : Nat) B1, (i : Int) < n → Ex B B1 → ETt F tt ((wipe σ vsN).set j (some (.int (i : Int)))) B1 (p i))
    (he : ∀ (i : Nat) B1, (i : Int) < n → p i = true → Ex B B1 → ED F K te ((wipe σ vsN).set j (some (.int (i : Int)))) B1 (g i)) :
    ED F K (tLc (iRng1 ta) (gName j) tt te vsN) σ B (.list (((List.range n.toNat).filter p).map g)) := fun B0 e0 H0 k0 Q q => by
  refine h B0 e0 H0 k0 _ fun vs B1 H1 s1 k1 pv => ?_
  cases pv with
  | cons pv t =>
    cases t
    obtain rfl := dd_int pv
    have fl : ∀ i, ((List.range i).filter p).length ≤ i := fun i => Nat.le_trans (List.length_filter_le _ _) (by rw [List.length_range]; exact Nat.le_refl _)
    refine ⟨n, rfl, hn.1, by omega, fun Dl hD => lc_range (lo := 0) (n := n.toNat) (fun i => Cq F K B1 H1 Dl (((List.range i).filter p).map g)) (cq_start k1 hD) (fun i H' hi c => ?_) (fun H' c => ?_)⟩
    · have e1 : (0 : Int) + (i : Int) = (i : Int) := Int.zero_add _
      show wipe ((wipe σ vsN).set j (some (.int ((0 : Int) + (i : Int))))) vsN = wipe σ vsN ∧ tt ((wipe σ vsN).set j (some (.int ((0 : Int) + (i : Int))))) H' _
      rw [e1]
      refine ⟨hw _, ?_⟩
      rw [List.range_succ, filter_snoc]
      exact cq_turn k1 hD (by rw [List.length_map]; exact Nat.lt_of_le_of_lt (fl i) (by omega)) c (fun B' e => ht i B' (by omega) ((e0.trans s1.bb).trans e)) (fun hp B' e => he i B' (by omega) hp ((e0.trans s1.bb).trans e))
    · obtain ⟨B2, s2, k2, g2⟩ := cq_done k1 hD (by rw [List.length_map]; exact Nat.le_trans (fl _) (by omega)) c
      exact q _ B2 H' (s1.trans s2) k2 g2
/-- no test -/
theorem et_yes {σ : L2.St} : ETt F tYes σ B true := fun B1 e0 H k Q q => q B1 H (Step.refl k.e) k
end
end Dx

/-! Defs that are called, boxes of draws, exceptions as values. -/
namespace Dx
open PySem PySem.Spec PyProof.Rows L2 Evl Ex

/-! ### built-in names -/
theorem bt_len : bootBuiltins "len" = some (.builtin "len") := by decide +kernel
theorem bt_abs : bootBuiltins "abs" = some (.builtin "abs") := by decide +kernel
theorem bt_isinstance : bootBuiltins "isinstance" = some (.builtin "isinstance") := by decide +kernel
theorem bt_all : bootBuiltins "all" = some (.builtin "all") := by decide +kernel
theorem bt_any : bootBuiltins "any" = some (.builtin "any") := by decide +kernel
theorem bt_int : bootBuiltins "int" = some (.type "int") := by decide +kernel
theorem bt_str : bootBuiltins "str" = some (.type "str") := by decide +kernel
theorem bt_bool : bootBuiltins "bool" = some (.type "bool") := by decide +kernel
theorem bt_tuple : bootBuiltins "tuple" = some (.type "tuple") := by decide +kernel
theorem bt_list : bootBuiltins "list" = some (.type "list") := by decide +kernel
theorem bt_ValueError : bootBuiltins "ValueError" = some (.type "ValueError") := by decide +kernel

/-! ### a def that others call -/
structure Callee (P : Program) (w : World) (K : PySem.W.Frag) (mg : Str → Option Value) (base : Heap) (x : Str) (k : Nat) (ps : List Str) (sp : Sp) : Prop where
  ex : ∃ f fd, FnOk P w K mg base CX0 k f fd ps sp ∧ mg x = some (.ref f) ∧ PySem.W.keepIn K (.ref f) = true ∧ Binds K fd ps []
section
variable {X : Cx} {x : Str} {k : Nat} {ps : List Str} {sp : Sp} {E : XK} {e : Expr} {es : List Expr} {t : TA} {p pos : Pos}
theorem pe_callC (C : Callee X.prog X.w X.K X.mg X.base x k ps sp) (hr : Room k X.A) (hg : Gl X x) (hx : Passes CX0 X E) (ha : PA X (e :: es) t) (hdb : (x == ("__debug__" : Str)) = false := by decide)
    (he : starEach (e :: es) X.env = (false, eval e X.env) :: starEach es X.env := by rfl) (hpl : (backTo pos (starEach es X.env)).any (·.1) = false := by rfl) :
    PE X (.Call (.Name x p) (e :: es) [] pos) (tCall sp [] E t) := by
  obtain ⟨f, fd, F, hm, hk, hb⟩ := C.ex
  exact pe_call F hr hg hm hk hb .nil hx ha hdb he hpl
theorem pe_callC0 (C : Callee X.prog X.w X.K X.mg X.base x k ps sp) (hr : Room k X.A) (hg : Gl X x) (hx : Passes CX0 X E) (hdb : (x == ("__debug__" : Str)) = false := by decide) :
    PE X (.Call (.Name x p) [] [] pos) (tCall sp [] E tNil) := by
  obtain ⟨f, fd, F, hm, hk, hb⟩ := C.ex
  exact pe_call0 F hr hg hm hk hb .nil hx hdb
theorem pe_gint {i : Int} (hg : Gl X x) (hm : ∃ t, X.mg x = some (.int i t)) (hd : (x == ("__debug__" : Str)) = false := by decide) : PE X (.Name x pos) (tC (.int i)) := by
  obtain ⟨t, hm⟩ := hm
  exact pe_glob hg hm ⟨t, rfl⟩ hd
end

/-! ### a box of draws -/
def bxJ (p : Addr) (H : Hp) : Prop := ∃ g s : Int, H p = some (.lst [.int g, .int s])
theorem bxJ_live {p a : Addr} {H : Hp} (h : bxJ p H) (m : a = p) : Liv H a := by
  obtain ⟨g, s, h⟩ := h
  subst m
  exact ⟨_, h, trivial⟩
theorem bxJ_fr {p a : Addr} {H : Hp} {o : HO} (h : bxJ p H) (n : ¬ a = p) : bxJ p (upd H a o) := by
  obtain ⟨g, s, h⟩ := h
  exact ⟨g, s, by rw [upd_ne (fun z => n z.symm)]; exact h⟩
def Fm.box (p : Addr) : Fm := ⟨fun a => a = p, bxJ p, fun _ _ e ⟨g, s, h⟩ => ⟨g, s, e _ _ h⟩, fun _ _ h m => bxJ_live h m, fun _ _ _ h n => bxJ_fr h n⟩
/-- f(box, ..): draws, changes the box alone -/
def spX (K : PySem.W.Frag) (pre : List PyData → Prop) (P : List PyData → PV) : Sp := fun vs H Q _ => ∃ (p : Addr) (us : List V) (B : Hp) (ds : List PyData), vs = .ref p :: us ∧ Ok (Fm.box p) B H ∧ DdAll K B us ds ∧ pre ds ∧
  ∀ v B' H', Step (fun a => a = p) B H B' H' → Ok (Fm.box p) B' H' → P ds v B' → Q v H'
section
variable {K : PySem.W.Frag} {σ : L2.St} {B : Hp} {p : Addr} {i : Nat} {tas : TA} {ds : List PyData} {pre : List PyData → Prop} {P : List PyData → PV} {E : XK} {Z : PV}
theorem ev_X (hi : σ[i]? = some (some (.ref p))) (ha : EDs (Fm.box p) K tas σ B ds) (h : pre ds) (hz : ∀ v B1, Ex B B1 → P ds v B1 → Z v B1) : EV (Fm.box p) (tCall (spX K pre P) [] E (tCons (tVar i) tas)) σ B Z := fun B1 e0 H j Q q =>
  ⟨.ref p, hi, ha B1 e0 H j _ fun us B2 H2 s2 j2 g => by
    show spX K pre P ((V.ref p :: us) ++ []) H2 Q E
    rw [List.append_nil]
    exact ⟨p, us, B2, ds, rfl, j2, g, h, fun v B3 H3 s3 j3 pz => q v B3 H3 (s2.trans s3) j3 (hz v B3 ((e0.trans s2.bb).trans s3.bb) pz)⟩⟩
end

/-! ### exceptions as values -/
def spInit (C : Addr) (f : Str) : Sp := fun vs H Q _ => ∃ (a : Addr) (v : V), vs = [.ref a, v] ∧ H a = some (exo a C none) ∧ ∀ dx, H dx = none → dx ≠ a → Q .non (upd (upd H dx (exd dx [(f, v)])) a (exo a C (some dx)))
structure ExcAt (P : Program) (w : World) (K : PySem.W.Frag) (mg : Str → Option Value) (base : Heap) (x f : Str) (C : Addr) : Prop where
  oc : OexC K C
  xf : XfC K C
  isc : IsC K C
  no : PySem.W.findIn K (.ref C) f = some none
  g : mg x = some (.ref C)
  ini : ∃ fI fd, PySem.W.findIn K (.ref C) "__init__" = some (some (.ref fI)) ∧ PySem.W.typeIn K (.ref fI) = some (.type "function") ∧ FnOk P w K mg base CX0 1 fI fd ["self", f] (spInit C f) ∧ Binds K fd ["self", f] []
section
variable {X : Cx} {x f : Str} {C : Addr} {e : Expr} {ta : TA} {p pos : Pos}
theorem pe_mkE (c : ExcAt X.prog X.w X.K X.mg X.base x f C) (hr : Room 2 X.A) (hg : Gl X x) (ha : PA X [e] ta) (hdb : (x == ("__debug__" : Str)) = false := by decide)
    (he : starEach [e] X.env = (false, eval e X.env) :: starEach [] X.env := by rfl) (hpl : (backTo pos (starEach [] X.env)).any (·.1) = false := by rfl) :
    PE X (.Call (.Name x p) [e] [] pos) (tMkV C (spInit C f) [] ta) := by
  obtain ⟨fI, fd, h1, h2, h3, h4⟩ := c.ini
  exact pe_mkv c.oc h1 h2 h3 hr h4 .nil pass0 hg c.g ha hdb he hpl
end
/-- an error of the class at C that keeps data d under the name f -/
def EvX (K : PySem.W.Frag) (C : Addr) (f : Str) (d : PyData) : PV := fun v B => ∃ (a dx : Addr) (u : V), v = .ref a ∧ B a = some (exo a C (some dx)) ∧ B dx = some (exd dx [(f, u)]) ∧ Dd K B u d
section
variable {F : Fm} {K : PySem.W.Frag} {σ : L2.St} {B : Hp} {te : TE} {d : PyData} {C : Addr} {f : Str}
theorem upc_evx : Upc (EvX K C f d) := fun v B B' e h => by
  obtain ⟨a, dx, u, rfl, h1, h2, h3⟩ := h
  exact ⟨a, dx, u, rfl, e _ _ h1, e _ _ h2, Dd.up h3 e⟩
theorem upd3 {H : Hp} {a b : Addr} {o u v : HO} (h : b ≠ a) : upd (upd (upd H a o) b u) a v = upd (upd H b u) a v := by
  funext c
  by_cases h1 : c = a
  · subst h1
    rw [upd_same, upd_same]
  · rw [upd_ne h1, upd_ne h1]
    by_cases h2 : c = b
    · subst h2
      rw [upd_same, upd_same]
    · rw [upd_ne h2, upd_ne h2, upd_ne h1]
theorem ev_mk (h : ED F K te σ B d) : EV F (tMkV C (spInit C f) [] (tCons te tNil)) σ B (EvX K C f d) := fun B1 e0 H j Q q =>
  h B1 e0 H j _ fun v B2 H2 s2 j2 g => ⟨(by show 1 ≤ 1000; decide), fun a ha => ⟨a, v, rfl, upd_same, fun dx hdx hne => ⟨rfl, by
    have hd : H2 dx = none := by
      rw [upd_ne hne] at hdx
      exact hdx
    have ha2 : upd H2 dx (exd dx [(f, v)]) a = none := by
      rw [upd_ne (Ne.symm hne)]
      exact ha
    have s3 : Step F.M B2 H2 (upd B2 dx (exd dx [(f, v)])) (upd H2 dx (exd dx [(f, v)])) := Step.alloc j2.e hd
    have j3 := j2.alloc (o := exd dx [(f, v)]) hd
    have s4 : Step F.M _ _ (upd (upd B2 dx (exd dx [(f, v)])) a (exo a C (some dx))) (upd (upd H2 dx (exd dx [(f, v)])) a (exo a C (some dx))) := Step.alloc j3.e ha2
    have j4 := j3.alloc (o := exo a C (some dx)) ha2
    rw [upd3 hne]
    refine q (.ref a) _ _ ((s2.trans s3).trans s4) j4 ⟨a, dx, v, rfl, upd_same, ?_, Dd.up g (s3.bb.trans s4.bb)⟩
    rw [upd_ne hne]
    exact upd_same⟩⟩⟩
theorem ev_oxf (hx : XfC K C) (no : PySem.W.findIn K (.ref C) f = some none) (h : EV F te σ B (EvX K C f d)) : ED F K (tOxf K f te) σ B d := fun B1 e0 H j Q q =>
  h B1 e0 H j _ fun v B2 H2 s2 j2 ⟨a, dx, u, ev, h1, h2, h3⟩ => ⟨a, C, dx, _, u, ev, j2.e _ _ h1, j2.e _ _ h2, hx, no, (by simp [List.lookup]), q u B2 H2 s2 j2 h3⟩
theorem ev_isx {c : V} {cv : Value} {b : Bool} (hx : XfC K C) (hi : IsC K C) (hc : ClsV c cv) (hk : PySem.W.kitOne K (.ref C) cv = some b) (h : EV F te σ B (EvX K C f d)) : ED F K (tCB (rIsX K) (tCons te (tCons (tC c) tNil))) σ B (.bool b) := fun B1 e0 H j Q q =>
  h B1 e0 H j _ fun v B2 H2 s2 j2 ⟨a, dx, u, ev, h1, h2, h3⟩ => ⟨a, C, dx, _, c, cv, b, (by rw [ev]), j2.e _ _ h1, j2.e _ _ h2, hx, hi, hc, hk, q _ B2 H2 s2 j2 (.bl b)⟩
end
end Dx

/-! Instances whose __init__ may raise; errors raised; lists of errors; draws. -/
namespace Dx
open PySem PySem.Spec PyProof.Rows L2 Evl Ex

/-! ### C(..) where what is raised is wished for at the caller's slots -/
section
variable {X : Cx} {CX : CXT} {k : Nat} {C f : Addr} {fd : FuncData} {ps : List Str} {sp : Sp} {E : L2.St → XK} {x : Str} {p pos : Pos} {e : Expr} {es : List Expr} {t : TA}
def tMakeS (C : Addr) (sp : Sp) (E : L2.St → XK) (t : TA) : TE := fun σ H Q => t σ H fun vs H1 => ∀ x dx, H1 x = none → H1 dx = none → dx ≠ x → sp (.ref x :: vs) (upd (upd H1 dx (.own x)) x (.ins C dx [])) (fun v H2 => v = .non ∧ Q (.ref x) H2) (E σ)
theorem run_makeS {pins : List (Addr × Obj)} {σ : L2.St} {H : Hp} {s : Shared} {Q : VK} {us : List Value} {vs : List V} (M : Mk X.K C f) (F : FnOk X.prog X.w X.K X.mg X.base CX k f fd ps sp) (hr : Room (k + 1) X.A) (hb : Binds X.K fd ps [])
    (hx : PassesAt CX X σ (E σ)) (I : Inv X pins σ H s) (r : Vals vs us)
    (h : ∀ x dx, H x = none → H dx = none → dx ≠ x → sp (.ref x :: vs) (upd (upd H dx (.own x)) x (.ins C dx [])) (fun v H2 => v = .non ∧ Q (.ref x) H2) (E σ)) :
    wpAny (model X.prog X.w) X.A (call (.ref C) us) (EP X pins σ Q) X.xe s := by
  have hq := h (s.heap.objs.size + 1) s.heap.objs.size (I.hok.fresh (Nat.le_succ _)) (I.hok.fresh (Nat.le_refl _)) (Nat.ne_of_lt (Nat.lt_succ_self _))
  have I2 := Inv.made (C := C) I
  have r2 : Vals (V.ref (s.heap.objs.size + 1) :: vs) (Value.ref (s.heap.objs.size + 1) :: us) := .cons rfl r
  have hl : (Value.ref (s.heap.objs.size + 1) :: us ++ []).length = ps.length := by
    have e := r2.length
    rw [F.len _ _ _ _ hq] at e
    rw [List.append_nil]
    exact e.symm
  have b := hb _ (Value.ref (s.heap.objs.size + 1) :: us) I2.kIn hl
  rw [List.append_nil] at b
  refine wpAny_call (make_map (f := f) I.kIn M.makes M.init (beq_iff_eq.mp M.fn) (codeAny_mono (F.run _ X.stack _ _ ⟨Value.ref (s.heap.objs.size + 1) :: us, []⟩ (Value.ref (s.heap.objs.size + 1) :: us) _ _ (E σ) (hr.make C us [])
    (I2.env0.make C us []) b r2 hq) fun r s' hq' => ?_))
  cases r with
  | error e => exact hx pins _ _ e s' I2 hq'
  | ok fl =>
    cases fl with
    | ret u =>
      obtain ⟨v, H', I3, rv, ev, q3⟩ := I2.after hq'
      subst ev
      exact ⟨rv, ⟨V.ref (s.heap.objs.size + 1), H', I3, rfl, q3⟩⟩
    | next => exact False.elim hq'
    | brk => exact False.elim hq'
    | cont => exact False.elim hq'
theorem pe_makeS (M : Mk X.K C f) (F : FnOk X.prog X.w X.K X.mg X.base CX k f fd ps sp) (hr : Room (k + 1) X.A) (hg : Gl X x) (hm : X.mg x = some (.ref C)) (hb : Binds X.K fd ps []) (hx : ∀ σ, PassesAt CX X σ (E σ))
    (ha : PA X (e :: es) t) (hdb : (x == ("__debug__" : Str)) = false := by decide) (he : starEach (e :: es) X.env = (false, eval e X.env) :: starEach es X.env := by rfl) (hpl : (backTo pos (starEach es X.env)).any (·.1) = false := by rfl) :
    PE X (.Call (.Name x p) (e :: es) [] pos) (tMakeS C sp E t) := by
  refine ⟨fun pins s σ H Q I h => ?_⟩
  refine wpAny_Call_Name_kw (ld_glob I hg hm ?_ hdb)
  refine PySem.W.callWith_K (h₀ := X.base) I.ok.mod.kin M.kp (thn (ha.run pos pins s σ H _ I h) fun us s1 ⟨vs, H1, I1, r, q⟩ => ⟨I1.kIn, ?_⟩) he hpl
  exact run_makeS M F hr hb (hx σ) I1 r q
end

/-! ### raise X(e) -/
section
variable {X : Cx} {x f : Str} {C : Addr} {e : Expr} {ta : TA} {p pos : Pos}
theorem pmk_E (c : ExcAt X.prog X.w X.K X.mg X.base x f C) (hr : Room 2 X.A) (hg : Gl X x) (ha : PA X [e] ta) (hdb : (x == ("__debug__" : Str)) = false := by decide)
    (he : starEach [e] X.env = (false, eval e X.env) :: starEach [] X.env := by rfl) (hpl : (backTo pos (starEach [] X.env)).any (·.1) = false := by rfl) :
    PMk X (.Call (.Name x p) [e] [] pos) (tMkO C (spInit C f) [] ta) := by
  obtain ⟨fI, fd, h1, h2, h3, h4⟩ := c.ini
  exact pmk_oex c.oc h1 h2 h3 hr h4 .nil pass0 hg c.g ha hdb he hpl
end
/-- the reading of what is raised: behind a heap H1 that holds all of B; the error's own dict dd keeps v -/
theorem mk_raise {F : Fm} {P : PV} {σ : L2.St} {B H : Hp} {te : TE} {C : Addr} {f : Str} {E : XK} (k : Ok F B H) (h : EV F te σ B P)
    (q : ∀ v B1 H1 dd H', Step F.M B H B1 H1 → Ok F B1 H1 → P v B1 → H1 dd = none → Ex H1 H' → H' dd = some (.xd [(f, v)]) → E (.ref C) (some dd) H') : tMkO C (spInit C f) [] (tCons te tNil) σ H E :=
  h B (Ex.refl B) H k _ fun v B1 H1 s1 k1 p => ⟨(by show 1 ≤ 1000; decide), fun a ha => ⟨a, v, rfl, upd_same, fun dx hdx hne => ⟨rfl, dx, _, upd_same, (by rw [upd_ne hne]; exact upd_same), (by
    rw [upd_ne hne] at hdx
    exact hdx), by
    have hd : H1 dx = none := by
      rw [upd_ne hne] at hdx
      exact hdx
    refine q v B1 H1 dx _ s1 k1 p hd (fun b o hb => ?_) upd_same
    have b1 : b ≠ dx := ne_of_none hb hd
    have b2 : b ≠ a := ne_of_none hb ha
    rw [upd_ne b1, del_ne b2, upd_ne b2, upd_ne b1, upd_ne b2]
    exact hb⟩⟩⟩

/-! ### lists of errors -/
inductive AX (K : PySem.W.Frag) (d : PyData) (B : Hp) : List (Addr × Str) → List V → Prop
  | nil : AX K d B [] []
  | cons {c : Addr} {f : Str} {v : V} {cs : List (Addr × Str)} {vs : List V} : EvX K c f d v B → AX K d B cs vs → AX K d B ((c, f) :: cs) (v :: vs)
section
variable {F : Fm} {K : PySem.W.Frag} {d : PyData} {B B' : Hp} {σ : L2.St} {te : TE} {tas : TA} {cs cs' : List (Addr × Str)} {vs us : List V} {c : Addr} {f : Str}
theorem AX.up (e : Ex B B') : ∀ {cs : List (Addr × Str)} {vs : List V}, AX K d B cs vs → AX K d B' cs vs
  | _, _, .nil => .nil
  | _, _, .cons h t => .cons (upc_evx _ _ _ e h) (AX.up e t)
theorem AX.len : ∀ {cs : List (Addr × Str)} {vs : List V}, AX K d B cs vs → vs.length = cs.length
  | _, _, .nil => rfl
  | _, _, .cons _ t => by rw [List.length_cons, List.length_cons, AX.len t]
theorem AX.app : ∀ {cs cs' : List (Addr × Str)} {vs us : List V}, AX K d B cs vs → AX K d B cs' us → AX K d B (cs ++ cs') (vs ++ us)
  | _, _, _, _, .nil, h => h
  | _, _, _, _, .cons a t, h => .cons a (AX.app t h)
theorem AX.get : ∀ {cs : List (Addr × Str)} {vs : List V} {i : Nat} {v : V}, AX K d B cs vs → vs[i]? = some v → ∃ c f, cs[i]? = some (c, f) ∧ EvX K c f d v B
  | _, _, i, _, .nil, e => by simp at e
  | _, _, 0, _, .cons h _, e => by
    simp at e
    subst e
    exact ⟨_, _, rfl, h⟩
  | _, _, i + 1, v, .cons _ t, e => by
    obtain ⟨c, f, h1, h2⟩ := AX.get (i := i) (v := v) t (by simpa using e)
    exact ⟨c, f, by simpa using h1, h2⟩
theorem eax_nil : EVs F tNil σ B (fun vs B => AX K d B [] vs) := fun B1 e0 H j Q q => q [] B1 H (Step.refl j.e) j .nil
theorem eax_cons (h : EV F te σ B (EvX K c f d)) (hs : EVs F tas σ B (fun vs B => AX K d B cs vs)) : EVs F (tCons te tas) σ B (fun vs B => AX K d B ((c, f) :: cs) vs) := fun B1 e0 H j Q q =>
  h B1 e0 H j _ fun v B2 H2 s2 j2 p => hs B2 (e0.trans s2.bb) H2 j2 _ fun us B3 H3 s3 j3 ps => q (v :: us) B3 H3 (s2.trans s3) j3 (.cons (upc_evx _ _ _ s3.bb p) ps)
/-- a list of such errors -/
def LsX (K : PySem.W.Frag) (d : PyData) (cs : List (Addr × Str)) : PV := fun v B => ∃ a vs, v = .ref a ∧ B a = some (.lst vs) ∧ AX K d B cs vs
theorem upc_lsx : Upc (LsX K d cs) := fun v B B' e ⟨a, vs, h1, h2, h3⟩ => ⟨a, vs, h1, e _ _ h2, h3.up e⟩
theorem ev_lsx (h : EVs F tas σ B (fun vs B => AX K d B cs vs)) (hl : cs.length ≤ 16777216 := by exact Nat.le_of_ble_eq_true rfl) : EV F (tLst tas) σ B (LsX K d cs) :=
  h.newL (fun vs B1 _ p => by rw [AX.len p, sizeLine_eq]; exact hl) fun vs p B1 _ g hp => ⟨p, vs, rfl, upd_same, AX.up (Ex.new hp) g⟩
theorem rv_lsx (hl : cs.length + cs'.length ≤ 16777216) : RV2 F (rAddA K) B (LsX K d cs) (LsX K d cs') (LsX K d (cs ++ cs')) := fun B1 e0 H u v jj ⟨a, vs, hu, h1, g1⟩ ⟨b, us, hv, h2, g2⟩ Q q =>
  .inr (.inr (.inl ⟨a, b, vs, us, hu, hv, jj.e _ _ h1, jj.e _ _ h2, by rw [g1.len, g2.len, sizeLine_eq]; exact hl, fun p hp => q _ _ _ (Step.alloc jj.e hp) (jj.alloc hp) ⟨p, vs ++ us, rfl, upd_same, AX.up (Ex.new (fresh_back jj.e hp)) (g1.app g2)⟩⟩))
theorem rv_ixX {i : Int} (hi : 0 ≤ i ∧ i < (cs.length : Nat)) : RV2 F (rIx K) B (LsX K d cs) (DD K (.int i)) (fun v B => ∃ c f, cs[i.toNat]? = some (c, f) ∧ EvX K c f d v B) := fun B1 e0 H u v jj ⟨a, vs, hu, h1, g1⟩ hv Q q => by
  have hlt : i.toNat < vs.length := by rw [g1.len]; omega
  have hx : vs[i.toNat]? = some vs[i.toNat] := List.getElem?_eq_getElem hlt
  obtain ⟨w, hw⟩ : ∃ w, vs[i.toNat]? = some w := ⟨_, hx⟩
  obtain ⟨c, f, h2, h3⟩ := g1.get hw
  exact .inl ⟨a, vs, i, w, hu, dd_int hv, sq_of (jj.e _ _ h1), at_of (by omega) hw, q _ B1 H (Step.refl jj.e) jj ⟨c, f, h2, h3⟩⟩
theorem rc_lenX : RVc F (fun xs H Q => ∃ x n, xs = [x] ∧ LenV K x H n ∧ Q (.int (n : Nat)) H) B (fun vs B => ∃ v, vs = [v] ∧ LsX K d cs v B) (DD K (.int (cs.length : Nat))) := fun B1 e0 H us jj ⟨v, e, a, vs, hv, h1, g1⟩ Q q =>
  ⟨v, cs.length, e, by
    subst hv
    exact .inl ⟨vs, sq_of (jj.e _ _ h1), g1.len.symm⟩, q _ B1 H (Step.refl jj.e) jj (.int _)⟩
theorem evs_one {P : PV} (h : EV F te σ B P) : EVs F (tCons te tNil) σ B (fun vs B => ∃ v, vs = [v] ∧ P v B) := fun B1 e0 H j Q q =>
  h B1 e0 H j _ fun v B2 H2 s2 j2 p => q [v] B2 H2 s2 j2 ⟨v, rfl, p⟩
theorem sqv_lsx {v : V} (h : LsX K d cs v B) : SqV K (fun vs B => AX K d B cs vs) v B := by
  obtain ⟨a, vs, rfl, h1, g⟩ := h
  exact ⟨a, vs, rfl, .inl (sq_of h1), g⟩
end

/-! ### draws -/
def preT (ds : List PyData) : Prop := ∃ m : Int, ds = [.int m] ∧ 0 < m ∧ m < 1073741824
def posT (ds : List PyData) : PV := fun v _ => ∃ i m : Int, ds = [.int m] ∧ v = .int i ∧ 0 ≤ i ∧ i < m
abbrev spTake (K : PySem.W.Frag) : Sp := spX K preT posT
def itemsOf : PyData → List PyData
  | .list xs => xs
  | .tuple xs => xs
  | _ => []
def preP (ds : List PyData) : Prop := ∃ d xs, ds = [d] ∧ (d = .list xs ∨ d = .tuple xs) ∧ xs ≠ [] ∧ xs.length < 1073741824
def posP (K : PySem.W.Frag) (ds : List PyData) : PV := fun v B => ∃ d e, ds = [d] ∧ e ∈ itemsOf d ∧ Dd K B v e
abbrev spPick (K : PySem.W.Frag) : Sp := spX K preP (posP K)
section
variable {F : Fm} {K : PySem.W.Frag} {σ : L2.St} {B : Hp} {p : Addr} {i : Nat} {ta : TE} {E : XK}
theorem ev_take {m : Int} (hi : σ[i]? = some (some (.ref p))) (ha : ED (Fm.box p) K ta σ B (.int m)) (h0 : 0 < m) (h1 : m < 1073741824) : EV (Fm.box p) (tCall (spTake K) [] E (tCons (tVar i) (tCons ta tNil))) σ B (fun v _ => ∃ n : Int, v = .int n ∧ 0 ≤ n ∧ n < m) :=
  ev_X hi (eds_cons ha eds_nil) ⟨m, rfl, h0, h1⟩ fun v B1 _ ⟨n, m', e, ev, h2, h3⟩ => by
    cases e
    exact ⟨n, ev, h2, h3⟩
theorem ev_pick {d : PyData} {xs : List PyData} (hi : σ[i]? = some (some (.ref p))) (ha : ED (Fm.box p) K ta σ B d) (hd : d = .list xs ∨ d = .tuple xs) (h0 : xs ≠ []) (h1 : xs.length < 1073741824) :
    EV (Fm.box p) (tCall (spPick K) [] E (tCons (tVar i) (tCons ta tNil))) σ B (fun v B => ∃ e, e ∈ xs ∧ Dd K B v e) :=
  ev_X hi (eds_cons ha eds_nil) ⟨d, xs, rfl, hd, h0, h1⟩ fun v B1 _ ⟨d', e, ed, he, hv⟩ => by
    cases ed
    refine ⟨e, ?_, hv⟩
    rcases hd with rfl | rfl <;> exact he
/-- xs[i], i some place -/
theorem rv_pick {d : PyData} {xs : List PyData} (hd : d = .list xs ∨ d = .tuple xs) : RV2 F (rIx K) B (DD K d) (fun v _ => ∃ n : Int, v = .int n ∧ 0 ≤ n ∧ n < (xs.length : Nat)) (fun v B => ∃ e, e ∈ xs ∧ Dd K B v e) := fun B1 e0 H u v jj hu ⟨n, hv, h0, h1⟩ Q q => by
  have hlt : n.toNat < xs.length := by omega
  obtain ⟨w, hw⟩ : ∃ w, xs[n.toNat]? = some w := ⟨_, List.getElem?_eq_getElem hlt⟩
  have hm : w ∈ xs := List.mem_of_getElem? hw
  have ha : atI xs n = some w := by
    have e : n = ((n.toNat : Nat) : Int) := by omega
    have h := atI_nat hw
    rw [← e] at h
    exact h
  subst hv
  rcases hd with rfl | rfl
  · exact rd_ixL (F := F) ha B1 e0 H u (.int n) jj hu (.int n) Q fun w B2 H2 s k g => q w B2 H2 s k ⟨_, hm, g⟩
  · exact rd_ixT (F := F) ha B1 e0 H u (.int n) jj hu (.int n) Q fun w B2 H2 s k g => q w B2 H2 s k ⟨_, hm, g⟩
end
/-- _law_box(script, k): a new box -/
def spBox (K : PySem.W.Frag) : Sp := fun vs H Q _ => ∃ (a : Addr) (k : Int) (ns : List Int) (B : Hp), vs = [.ref a, .int k] ∧ Ex B H ∧ SqL K B a (ns.map V.int) ∧ ns.length ≤ 63 ∧ 0 ≤ k ∧ k ≤ 1000 ∧
  ∀ p B' H', Step (fun _ => False) B H B' H' → Ok (Fm.box p) B' H' → Q (.ref p) H'
section
variable {F : Fm} {K : PySem.W.Frag} {σ : L2.St} {B0 H0 B H : Hp} {D : Ends} {tz : TS} {i j l : Nat} {E : XK} {ta : TA} {d : PyData} {te : TE}
theorem qv_box {a : Addr} {ns : List Int} {k : Int} (e : Ex B H) (hi : σ[i]? = some (some (.ref a))) (hS : SqL K B a (ns.map V.int)) (hl : ns.length ≤ 63) (h0 : 0 ≤ k) (h1 : k ≤ 1000)
    (q : ∀ p B1 H1, Step (fun _ => False) B H B1 H1 → Ok (Fm.box p) B1 H1 → tz D (σ.set j (some (.ref p))) H1) : tSeq (tAsg (tCall (spBox K) [] E (tCons (tVar i) (tCons (tC (.int k)) tNil))) (gName j)) tz D σ H :=
  ⟨.ref a, hi, a, k, ns, B, rfl, e, hS, hl, h0, h1, q⟩
theorem qv_par3X {x y z : Addr × Str} (a : At F B0 H0 B H) (h : EVs F ta σ B (fun vs B => AX K d B [x, y, z] vs))
    (k : ∀ u v w B1 H1, Ex B B1 → At F B0 H0 B1 H1 → EvX K x.1 x.2 d u B1 → EvX K y.1 y.2 d v B1 → EvX K z.1 z.2 d w B1 → tz D (((σ.set i (some u)).set j (some v)).set l (some w)) H1) : tSeq (tPar3 i j l ta) tz D σ H :=
  h B (Ex.refl B) H a.j _ fun vs B1 H1 s1 j1 g => by
    cases g with
    | cons g1 t =>
      cases t with
      | cons g2 t =>
        cases t with
        | cons g3 t =>
          cases t
          exact ⟨_, _, _, rfl, k _ _ _ B1 H1 s1.bb (a.next s1 j1) g1 g2 g3⟩
def Sh (K : PySem.W.Frag) : PV := fun v B => ∃ d, Dd K B v d ∧ SeqAt.shaped d = true
theorem sh_of (h : ED F K te σ B d) (hs : SeqAt.shaped d = true) : EV F te σ B (Sh K) := h.imp fun v B1 _ hv => ⟨d, hv, hs⟩
end
end Dx

/-! The rules with the written part K named (also within comprehensions). -/
namespace Dx
open PySem PySem.Spec PyProof.Rows L2 Evl Ex
section
variable {X : Cx} (K : PySem.W.Frag) {e : Expr} {te : TE} {f : Str} {pos : Pos} {tg l : Expr} {tl : TE}
def rLnK (K : PySem.W.Frag) : List V → Hp → VK → Prop := fun xs H Q => ∃ x n, xs = [x] ∧ LenV K x H n ∧ Q (.int (n : Nat)) H
theorem call_lenK (hK : X.K = K := by rfl) : CallR X (.builtin "len") (rLnK K) := by subst hK; exact call_len
theorem ix_seqK (hK : X.K = K := by rfl) : IxR X (rIx K) := by subst hK; exact ix_seq
theorem op_addK (hK : X.K = K := by rfl) : OpR X (binaryOp .Add) (rAddA K) := by subst hK; exact op_addA
theorem op_eqDK (hu : X.A.units + 64 < cLine) (hK : X.K = K := by rfl) : OpR X (compareOp .Eq) (rEqD K) := by subst hK; exact op_eqD hu
theorem op_neDK (hu : X.A.units + 64 < cLine) (hK : X.K = K := by rfl) : OpR X (compareOp .NotEq) (rNeD K) := by subst hK; exact op_neD hu
theorem op_inK (hK : X.K = K := by rfl) : OpR X (compareOp .In) (rIn K false) := by subst hK; exact op_in_seq
theorem op_ninK (hK : X.K = K := by rfl) : OpR X (compareOp .NotIn) (rIn K true) := by subst hK; exact op_notIn_seq
theorem call_isiK1 (hK : X.K = K := by rfl) : CallR X (.builtin "isinstance") (rIsi K) := by subst hK; exact call_isi
theorem call_isXK (hK : X.K = K := by rfl) : CallR X (.builtin "isinstance") (rIsX K) := by subst hK; exact call_isX
theorem pe_oxfK (he : PE X e te) (hK : X.K = K := by rfl) (hb : attributeBase e f X.env (eval e X.env) = eval e X.env := by rfl) : PE X (.Attribute e f pos) (tOxf K f te) := by subst hK; exact pe_oxf he hb
theorem pe_fldK (he : PE X e te) (hK : X.K = K := by rfl) (hb : attributeBase e f X.env (eval e X.env) = eval e X.env := by rfl) : PE X (.Attribute e f pos) (tFld K te f) := by subst hK; exact pe_fld he hb
theorem pi_seqK (hl : PE X l tl) (hK : X.K = K := by rfl) : PI X tg l (iSeq K tl) := by subst hK; exact pi_seq hl
theorem cr_allK (hc : X.calm = true := by rfl) (hK : X.K = K := by rfl) : CallR X (.builtin "all") (rAll K) := by subst hK; exact cr_all hc
theorem cr_anyK (hc : X.calm = true := by rfl) (hK : X.K = K := by rfl) : CallR X (.builtin "any") (rAny K) := by subst hK; exact cr_any hc
theorem pt_tru (he : PE X e te) (ht : ∀ whole, isTrue e X.env whole = (do let v ← whole; standAt e.pos; holding [v] (truthy v)) := by intro _; rfl) (hK : X.K = K := by rfl) :
    PT X e (fun σ H Q => te σ H fun x H' => ∃ k, TruV K x H' k ∧ Q k H') := by subst hK; exact pt_truth he ht
end
end Dx

/-! What the top has written: an error's class, a def, a class. -/
namespace Dx
open PySem PySem.Spec PyProof.Rows L2 Evl Ex
structure XFact (K : PySem.W.Frag) (x f qual : Str) (st : Stmt) (C : Addr) : Prop where
  a : PySem.W.nsIn K mainGlobals x = some (some (.ref C))
  oc : OexC K C
  xf : XfC K C
  isc : IsC K C
  no : PySem.W.findIn K (.ref C) f = some none
  fn : ∃ f1 fd, PySem.W.findIn K (.ref C) "__init__" = some (some (.ref f1)) ∧ PySem.W.typeIn K (.ref f1) = some (.type "function") ∧ Fun K "__init__" qual st f1 fd
theorem xfact_mk {K : PySem.W.Frag} {x f qual : Str} {st : Stmt} {C f1 : Addr} {nm q : Str} {N : Addr} {bs bm : List Value} {sn : List Str} {sub : List Value} {ab : Bool} {col : Option Bool} {dd : Option Addr} {m0 m1 m2 m3 m5 : Option Value}
    {od1 an1 : Option Addr} {sl1 : Array (Option Value)} {oc1 dc1 kV1 pm1 cd1 ct1 : Value}
    (aC : PySem.W.nsIn K mainGlobals x = some (some (.ref C)))
    (xL : K.lookup C = some (excClassObj nm q C N bs bm true sn sub ab col dd m0 m1 m2 m3 m5 "ValueError.__new__")) (hbm : PySem.HandSPX.refsVE bm = true)
    (sa : PySem.W.findIn K (.ref C) "__setattr__" = some (some (.builtin "object.__setattr__"))) (ga : PySem.W.findIn K (.ref C) "__getattribute__" = some (some (.builtin "BaseException.__getattribute__"))) (gg : PySem.W.findIn K (.ref C) "__getattr__" = some none) (nb : PySem.W.findIn K (.ref C) f = some none)
    (a1 : PySem.W.findIn K (.ref C) "__init__" = some (some (.ref f1))) (t1 : PySem.W.typeIn K (.ref f1) = some (.type "function"))
    (l1 : K.lookup f1 = some ⟨oc1, od1, .func (PySem.W.fnOf "__init__" qual (defArgs st) (defBody st) (defScope st) .none kV1 dc1 pm1 an1 cd1 ct1), sl1⟩) (c1 : PySem.W.codeIn K cd1 qual = true) (k1 : PySem.W.keepIn K (.ref f1) = true)
    (kC : PySem.W.keepIn K (.ref C) = true) (eC : PySem.W.subIn K (.ref C) (.type "BaseException") = some true) (tC : PySem.W.typeIn K (.ref C) = some (.type "type")) (hC : PySem.W.hasDictIn K C = true)
    (iC : PySem.W.isClsIn K C = true) (ca : PySem.W.findIn K (.ref C) "__class__" = some (some (.builtin "object.__class__"))) (sg : PySem.W.specialIn K (.builtin "object.__class__") "__get__" = some (some (.builtin "getset_descriptor.__get__")))
    (tk : PySem.W.takesIn K (.builtin "object.__class__") = some true) (mo : PySem.W.mroIn K C (.type "object") = some true) : XFact K x f qual st C where
  a := aC
  oc := ⟨⟨nm, q, N, bs, bm, sn, sub, ab, col, dd, m0, m1, m2, m3, m5, xL, hbm⟩, sa, eC, tC, kC⟩
  xf := ⟨ga, gg, eC, hC⟩
  isc := ⟨iC, ca, sg, tk, mo⟩
  no := nb
  fn := ⟨f1, _, a1, t1, fun_mk l1 c1 k1⟩
theorem XFact.at {P : Program} {w : World} {K : PySem.W.Frag} {mg : Str → Option Value} {base h : Heap} {x f qual : Str} {st : Stmt} {C : Addr} (e : XFact K x f qual st C) (X : K.In h) (G : h.Ns mainGlobals mg)
    (ok : ∀ f1 fd, Fun K "__init__" qual st f1 fd → FnOk P w K mg base CX0 1 f1 fd ["self", f] (spInit C f)) (bnd : ∀ f1 fd, Fun K "__init__" qual st f1 fd → L2.Binds K fd ["self", f] []) : ExcAt P w K mg base x f C := by
  obtain ⟨f1, fd, h1, h2, F⟩ := e.fn
  exact ⟨e.oc, e.xf, e.isc, e.no, PySem.W.mg_of X G e.a, f1, fd, h1, h2, ok f1 fd F, bnd f1 fd F⟩
/-- a def of the module -/
structure DFact (K : PySem.W.Frag) (x : Str) (st : Stmt) (f : Addr) : Prop where
  a : PySem.W.nsIn K mainGlobals x = some (some (.ref f))
  fn : ∃ fd, Fun K x x st f fd
theorem dfact_mk {K : PySem.W.Frag} {x : Str} {st : Stmt} {f : Addr} {od1 an1 : Option Addr} {sl1 : Array (Option Value)} {oc1 dc1 kV1 pm1 cd1 ct1 : Value} (a : PySem.W.nsIn K mainGlobals x = some (some (.ref f)))
    (l1 : K.lookup f = some ⟨oc1, od1, .func (PySem.W.fnOf x x (defArgs st) (defBody st) (defScope st) .none kV1 dc1 pm1 an1 cd1 ct1), sl1⟩) (c1 : PySem.W.codeIn K cd1 x = true) (k1 : PySem.W.keepIn K (.ref f) = true) : DFact K x st f := ⟨a, _, fun_mk l1 c1 k1⟩
theorem DFact.callee {P : Program} {w : World} {K : PySem.W.Frag} {mg : Str → Option Value} {base h : Heap} {x : Str} {st : Stmt} {f : Addr} {k : Nat} {ps : List Str} {sp : Sp} (d : DFact K x st f) (X : K.In h) (G : h.Ns mainGlobals mg)
    (ok : ∀ fd, Fun K x x st f fd → FnOk P w K mg base CX0 k f fd ps sp) (b : ∀ fd, Fun K x x st f fd → L2.Binds K fd ps []) : Callee P w K mg base x k ps sp := by
  obtain ⟨fd, F⟩ := d.fn
  exact ⟨f, fd, ok fd F, PySem.W.mg_of X G d.a, F.kp, b fd F⟩
/-- a class whose instances have a dict, and its __init__ -/
structure CFact (K : PySem.W.Frag) (x qual : Str) (st : Stmt) (C : Addr) : Prop where
  a : PySem.W.nsIn K mainGlobals x = some (some (.ref C))
  made : ∃ f1 fd, Mk K C f1 ∧ Fun K "__init__" qual st f1 fd
theorem cfact_mk {K : PySem.W.Frag} {x qual : Str} {st : Stmt} {C f1 : Addr} {od1 an1 : Option Addr} {sl1 : Array (Option Value)} {oc1 dc1 kV1 pm1 cd1 ct1 : Value} (a : PySem.W.nsIn K mainGlobals x = some (some (.ref C)))
    (mk : PySem.W.makesIn K C = true) (a1 : PySem.W.findIn K (.ref C) "__init__" = some (some (.ref f1))) (i1 : PySem.W.isFn K (.ref f1) = true) (kc : PySem.W.keepIn K (.ref C) = true)
    (l1 : K.lookup f1 = some ⟨oc1, od1, .func (PySem.W.fnOf "__init__" qual (defArgs st) (defBody st) (defScope st) .none kV1 dc1 pm1 an1 cd1 ct1), sl1⟩) (c1 : PySem.W.codeIn K cd1 qual = true) (k1 : PySem.W.keepIn K (.ref f1) = true) : CFact K x qual st C :=
  ⟨a, f1, _, ⟨mk, a1, i1, kc⟩, fun_mk l1 c1 k1⟩
/-- G, the class above the errors -/
structure GFact (K : PySem.W.Frag) (x : Str) (C : Addr) : Prop where
  a : PySem.W.nsIn K mainGlobals x = some (some (.ref C))
  rd : ClX.CRead K C (.type "type")
  gi : PySem.W.findCls K (.ref C) (.type "type") "__init__" = some (.val (.builtin "ValueError.__init__"))
  eC : PySem.W.subIn K (.ref C) (.type "BaseException") = some true
  hC : PySem.W.hasDictIn K C = true
  tC : PySem.W.typeIn K (.ref C) = some (.type "type")
theorem gfact_mk {K : PySem.W.Frag} {x : Str} {C : Addr} (a : PySem.W.nsIn K mainGlobals x = some (some (.ref C))) (r1 : PySem.W.readsIn K C (.type "type") = true) (r2 : PySem.W.specialIn K (.ref C) "__getattribute__" = some (some (.builtin "type.__getattribute__")))
    (gi : PySem.W.findCls K (.ref C) (.type "type") "__init__" = some (.val (.builtin "ValueError.__init__"))) (eC : PySem.W.subIn K (.ref C) (.type "BaseException") = some true) (hC : PySem.W.hasDictIn K C = true) (tC : PySem.W.typeIn K (.ref C) = some (.type "type")) : GFact K x C := ⟨a, ⟨r1, r2⟩, gi, eC, hC, tC⟩
end Dx

/-! Which kinds come back to themselves: plain mathematics. -/
namespace Gm
/-- x is come to from k by one or more steps -/
inductive Rch (E : List (Int × Int)) (k : Int) : Int → Prop
  | one {x : Int} : (k, x) ∈ E → Rch E k x
  | more {y x : Int} : Rch E k y → (y, x) ∈ E → Rch E k x
theorem Rch.mono {E E' : List (Int × Int)} (h : ∀ p, p ∈ E → p ∈ E') {k x : Int} (r : Rch E k x) : Rch E' k x := by
  induction r with
  | one e => exact .one (h _ e)
  | more _ e ih => exact .more ih (h _ e)
def Closed (E : List (Int × Int)) (k : Int) (S : List Int) : Prop := ∀ a b, (a, b) ∈ E → (a = k ∨ a ∈ S) → b ∈ S
theorem closed_rch {E : List (Int × Int)} {k : Int} {S : List Int} (h : Closed E k S) {x : Int} (r : Rch E k x) : x ∈ S := by
  induction r with
  | one e => exact h _ _ e (.inl rfl)
  | more _ e ih => exact h _ _ e (.inr ih)
/-- at most n different ones -/
theorem len_filter (a : Int) : ∀ L : List Int, L.Nodup → L.length ≤ (L.filter fun x => x != a).length + 1
  | [], _ => Nat.zero_le _
  | b :: L, h => by
    have hb := (List.nodup_cons.mp h).1
    have hL := (List.nodup_cons.mp h).2
    by_cases e : b = a
    · subst e
      have : L.filter (fun x => x != b) = L := List.filter_eq_self.mpr fun x hx => by
        have : x ≠ b := fun z => hb (z ▸ hx)
        simpa using this
      rw [List.filter_cons]
      simp [this]
    · have ih := len_filter a L hL
      have e' : (b != a) = true := by simpa using e
      rw [List.filter_cons, if_pos e', List.length_cons, List.length_cons]
      omega
theorem pig : ∀ (n : Nat) (L : List Int), L.Nodup → (∀ x ∈ L, 0 ≤ x ∧ x < (n : Int)) → L.length ≤ n
  | 0, L, _, h => by
    cases L with
    | nil => exact Nat.le_refl _
    | cons x L =>
      have := h x List.mem_cons_self
      omega
  | n + 1, L, hn, h => by
    have h1 := len_filter (n : Int) L hn
    have h2 := pig n (L.filter fun x => x != (n : Int)) (hn.filter _) fun x hx => by
      obtain ⟨hm, hx⟩ := List.mem_filter.mp hx
      have h3 := h x hm
      have h4 : x ≠ (n : Int) := by simpa using hx
      omega
    omega
/-- the law's turn -/
def turn (E : List (Int × Int)) (k : Int) (S : List Int) : List Int := S ++ (E.filter fun p => (p.1 == k || S.contains p.1) && !S.contains p.2).map (·.2)
def turns (E : List (Int × Int)) (k : Int) : Nat → List Int
  | 0 => []
  | t + 1 => turn E k (turns E k t)
theorem mem_turn {E : List (Int × Int)} {k : Int} {S : List Int} {x : Int} : x ∈ turn E k S ↔ x ∈ S ∨ ∃ a, (a, x) ∈ E ∧ (a = k ∨ a ∈ S) := by
  unfold turn
  rw [List.mem_append, List.mem_map]
  constructor
  · rintro (h | ⟨⟨a, b⟩, hm, rfl⟩)
    · exact .inl h
    · obtain ⟨hE, hc⟩ := List.mem_filter.mp hm
      simp only [Bool.and_eq_true, Bool.or_eq_true, beq_iff_eq, List.contains_iff_mem] at hc
      exact .inr ⟨a, hE, hc.1⟩
  · rintro (h | ⟨a, hE, hc⟩)
    · exact .inl h
    · by_cases hx : x ∈ S
      · exact .inl hx
      · refine .inr ⟨(a, x), List.mem_filter.mpr ⟨hE, ?_⟩, rfl⟩
        simp only [Bool.and_eq_true, Bool.or_eq_true, beq_iff_eq, List.contains_iff_mem, Bool.not_eq_true', Bool.eq_false_iff, ne_eq]
        exact ⟨hc, hx⟩
theorem turns_sound {E : List (Int × Int)} {k : Int} : ∀ (t : Nat) (x : Int), x ∈ turns E k t → Rch E k x
  | 0, x, h => by cases h
  | t + 1, x, h => by
    rcases mem_turn.mp h with h | ⟨a, hE, rfl | ha⟩
    · exact turns_sound t x h
    · exact .one hE
    · exact .more (turns_sound t a ha) hE
theorem turns_many {E : List (Int × Int)} {k : Int} : ∀ t : Nat, (∃ s, s ≤ t ∧ Closed E k (turns E k s)) ∨ ∃ L : List Int, L.Nodup ∧ L.length = t ∧ ∀ x ∈ L, x ∈ turns E k t
  | 0 => .inr ⟨[], List.nodup_nil, rfl, fun _ h => nomatch h⟩
  | t + 1 => by
    rcases turns_many (E := E) (k := k) t with ⟨s, hs, hc⟩ | ⟨L, h1, h2, h3⟩
    · exact .inl ⟨s, by omega, hc⟩
    · by_cases hc : Closed E k (turns E k t)
      · exact .inl ⟨t, by omega, hc⟩
      · have : ∃ a b, (a, b) ∈ E ∧ (a = k ∨ a ∈ turns E k t) ∧ b ∉ turns E k t := by
          apply Classical.byContradiction
          intro hno
          refine hc fun a b hE ha => ?_
          apply Classical.byContradiction
          intro hb
          exact hno ⟨a, b, hE, ha, hb⟩
        obtain ⟨a, b, hE, ha, hb⟩ := this
        refine .inr ⟨b :: L, List.nodup_cons.mpr ⟨fun hm => hb (h3 b hm), h1⟩, by rw [List.length_cons, h2], fun x hx => ?_⟩
        rcases List.mem_cons.mp hx with rfl | hx
        · exact mem_turn.mpr (.inr ⟨a, hE, ha⟩)
        · exact mem_turn.mpr (.inl (h3 x hx))
theorem closed_turn {E : List (Int × Int)} {k : Int} {S : List Int} (h : Closed E k S) : Closed E k (turn E k S) := fun a b hE ha => by
  refine mem_turn.mpr ?_
  rcases ha with ha | ha
  · exact .inl (h a b hE (.inl ha))
  · rcases mem_turn.mp ha with h1 | ⟨c, hc, h1⟩
    · exact .inl (h a b hE (.inr h1))
    · exact .inl (h a b hE (.inr (h c a hc h1)))
theorem closed_later {E : List (Int × Int)} {k : Int} {s : Nat} (h : Closed E k (turns E k s)) : ∀ d : Nat, Closed E k (turns E k (s + d))
  | 0 => h
  | d + 1 => closed_turn (closed_later h d)
/-- behind n + 1 turns, the kinds below n, just what is come to is found -/
theorem turns_all {E : List (Int × Int)} {k : Int} {n : Nat} (hE : ∀ a b, (a, b) ∈ E → 0 ≤ b ∧ b < (n : Int)) (x : Int) : x ∈ turns E k (n + 1) ↔ Rch E k x := by
  refine ⟨turns_sound _ _, fun r => ?_⟩
  rcases turns_many (E := E) (k := k) (n + 1) with ⟨s, hs, hc⟩ | ⟨L, h1, h2, h3⟩
  · have := closed_later hc (n + 1 - s)
    rw [show s + (n + 1 - s) = n + 1 by omega] at this
    exact closed_rch this r
  · have := pig n L h1 fun y hy => by
      have hr := turns_sound _ _ (h3 y hy)
      cases hr with
      | one e => exact hE _ _ e
      | more _ e => exact hE _ _ e
    omega
theorem turn_len (E : List (Int × Int)) (k : Int) (S : List Int) : (turn E k S).length ≤ S.length + E.length := by
  unfold turn
  rw [List.length_append, List.length_map]
  have := List.length_filter_le (fun p : Int × Int => (p.1 == k || S.contains p.1) && !S.contains p.2) E
  omega
theorem turns_len (E : List (Int × Int)) (k : Int) : ∀ t, (turns E k t).length ≤ t * E.length
  | 0 => Nat.zero_le _
  | t + 1 => by
    have h1 := turn_len E k (turns E k t)
    have h2 := turns_len E k t
    show (turn E k (turns E k t)).length ≤ _
    rw [Nat.add_mul, Nat.one_mul]
    omega
/-- the first kind that comes back to itself, if there is one -/
inductive BK (E : List (Int × Int)) (n : Int) : Option Int → Prop
  | some (k : Int) : 0 ≤ k → k < n → Rch E k k → (∀ j, 0 ≤ j → j < k → ¬ Rch E j j) → BK E n (some k)
  | none : (∀ j, 0 ≤ j → j < n → ¬ Rch E j j) → BK E n none
theorem BK.uniq {E : List (Int × Int)} {n : Int} {a b : Option Int} (h : BK E n a) (g : BK E n b) : a = b := by
  cases h with
  | some k h0 h1 h2 h3 =>
    cases g with
    | some j g0 g1 g2 g3 =>
      rcases Int.lt_trichotomy k j with h | h | h
      · exact absurd h2 (g3 k h0 h)
      · rw [h]
      · exact absurd g2 (h3 j g0 h)
    | none g => exact absurd h2 (g k h0 h1)
  | none h =>
    cases g with
    | some j g0 g1 g2 g3 => exact absurd g2 (h j g0 g1)
    | none g => rfl
theorem BK.ext {E E' : List (Int × Int)} {n : Int} {a : Option Int} (e : ∀ p, p ∈ E ↔ p ∈ E') (h : BK E n a) : BK E' n a := by
  have r : ∀ j x, Rch E j x ↔ Rch E' j x := fun j x => ⟨Rch.mono fun p => (e p).mp, Rch.mono fun p => (e p).mpr⟩
  cases h with
  | some k h0 h1 h2 h3 => exact .some k h0 h1 ((r k k).mp h2) fun j a b c => h3 j a b ((r j j).mpr c)
  | none h => exact .none fun j a b c => h j a b ((r j j).mpr c)
end Gm

/-! Shared by the laws: what is an integer; several except clauses with a name; an own ==. -/
namespace Dx
open PySem PySem.Spec PyProof.Rows L2 Evl Ex
structure TB (mg : Str → Option Value) : Prop where
  m_len : mg "len" = none
  m_abs : mg "abs" = none
  m_int : mg "int" = none
  m_str : mg "str" = none
  m_bool : mg "bool" = none
  m_tuple : mg "tuple" = none
  m_list : mg "list" = none
  m_all : mg "all" = none
  m_isinstance : mg "isinstance" = none
  m_range : mg "range" = none
/-! ### what is an integer -/
def isI : PyData → Bool
  | .int _ => true
  | _ => false
def fInt : List PyData → PyData
  | [d] => .bool (isI d)
  | _ => .none
def inB (d : PyData) (lo hi : Int) : Bool := match d with
  | .int i => decide (lo ≤ i) && decide (i ≤ hi)
  | _ => false
def fBetween : List PyData → PyData
  | [d, .int lo, .int hi] => .bool (inB d lo hi)
  | _ => .none
def pre1 (ds : List PyData) : Prop := ∃ d, ds = [d]
def preB (ds : List PyData) : Prop := ∃ d lo hi, ds = [d, .int lo, .int hi]
abbrev spInt (K : PySem.W.Frag) : Sp := spF K pre1 fInt
abbrev spBetween (K : PySem.W.Frag) : Sp := spF K preB fBetween
theorem arg1 {K : PySem.W.Frag} {B : Hp} {vs : List V} {d : PyData} (h : DdAll K B vs [d]) : ∃ v, vs = [v] ∧ Dd K B v d := by
  cases h with
  | cons h1 t =>
    cases t
    exact ⟨_, rfl, h1⟩
theorem arg2 {K : PySem.W.Frag} {B : Hp} {vs : List V} {d e : PyData} (h : DdAll K B vs [d, e]) : ∃ v u, vs = [v, u] ∧ Dd K B v d ∧ Dd K B u e := by
  cases h with
  | cons h1 t =>
    obtain ⟨u, rfl, h2⟩ := arg1 t
    exact ⟨_, u, rfl, h1, h2⟩
theorem arg3 {K : PySem.W.Frag} {B : Hp} {vs : List V} {d e c : PyData} (h : DdAll K B vs [d, e, c]) : ∃ v u y, vs = [v, u, y] ∧ Dd K B v d ∧ Dd K B u e ∧ Dd K B y c := by
  cases h with
  | cons h1 t =>
    obtain ⟨u, y, rfl, h2, h3⟩ := arg2 t
    exact ⟨_, u, y, rfl, h1, h2, h3⟩

/-! ### try: .. except X as n: .. except Y as n: .. -/
abbrev Clause := Value × (Addr → Value → Option Addr → TS)
/-- the ends of a suite behind which the name is gone -/
def goneE (i : Nat) (D : Ends) : Ends := { nx := fun σ' H' => D.nx (σ'.set i none) H', rt := D.rt, bk := fun σ' H' => D.bk (σ'.set i none) H', ct := fun σ' H' => D.ct (σ'.set i none) H' }
def wNames (K : PySem.W.Frag) (i : Nat) (Wout : WX) (D : Ends) : List Clause → WX
  | [] => Wout
  | (c, ts) :: r => fun cls d σ H => ∃ b, PySem.W.exmOne K cls c = some b ∧ (b = true → ∀ a, H a = none → ts a cls d (goneE i D) (σ.set i (some (.ref a))) H) ∧ (b = false → wNames K i Wout D r cls d σ H)
inductive ClsOk (X : Cx) (n : Str) : List ExceptHandler → List Clause → Prop
  | nil : ClsOk X n [] []
  | cons {x : Str} {c : Value} {ts : Addr → Value → Option Addr → TS} {b₀ : Stmt} {suite : List Stmt} {np pos' : Pos} {hds : List ExceptHandler} {l : List Clause} (hc : Names X x c)
      (hsu : ∀ (a : Addr) (oe : Obj) (cls : Value) (d : Option Addr) (pn : List (Addr × Obj)), Zc cls d oe → (∃ vs, oe.data = .fields vs) → PSs (X.suite a ((a, oe) :: pn)) (b₀ :: suite) (ts a cls d)) (r : ClsOk X n hds l) :
      ClsOk X n (.ExceptHandler (some (.Name x np)) (some n) (b₀ :: suite) pos' :: hds) ((c, ts) :: l)
section
variable {X : Cx} {n : Str} {i : Nat} {body : List Stmt} {h₀ : ExceptHandler} {hds : List ExceptHandler} {l : List Clause} {pos : Pos} {tb : WX → TS} {Wout : WX}
theorem ps_try_names (hs : X.stack = X.env :: X.outer) (hf : X.env.frame = some X.env.locals) (hN : X.N.Nodup) (hi : X.N[i]? = some n) (hln : X.env.kindOf n = some .local) (tk : Takes X Wout)
    (hb : ∀ (W : WX) (pn : List (Addr × Obj)) (xe : Value → Shared → Prop), Takes (X.tr pn xe) W → PassesOwn (model X.prog X.w) X.A X.env xe → PSs (X.tr pn xe) body (tb W))
    (hh : ClsOk X n (h₀ :: hds) l) : PS X (.Try body (h₀ :: hds) [] [] pos) (fun D σ H => tb (wNames X.K i Wout D l) D σ H) := by
  refine ⟨fun pins s σ H D I h => ?_⟩
  have ok := I.ok
  have hfr : X.A.frames = some (X.env :: X.outer) := by rw [ok.frames, hs]
  have hloc : Loc X.env.scope n := .inl hln
  refine wpAny_Try_except ?_
  refine wpAny_mono ((hb (wNames X.K i Wout D l) (X.pn ++ pins) (fun e s₁ => wpAny (model X.prog X.w) X.A (noteFrame e X.env) (fun _ s₂ => wpAny (model X.prog X.w) X.A (setFlight e none) (fun _ s₃ =>
    wpAny (model X.prog X.w) X.A (handleBy e X.env (h₀ :: hds)) (SP X pins D) X.xe s₃) X.xe s₂) X.xe s₁) (fun u s' xx => ?_) PassesOwn.looking).run [] s σ H D (I.toTry _) h) (fun f s1 hsp => ?_) (fun e s1 he => he)
  · obtain ⟨a, B, sI, pins', σ', H', cls, d, rfl, J', nb, up, sky, na, os, ag, w⟩ := xx
    have J : Inv X pins σ' H' sI := J'.ofTry ok
    have sky' : Sky B (X.env :: X.outer) a (Zc cls d) X.env.locals s'.heap := by rw [← hs]; exact sky
    show wpAny (model X.prog X.w) X.A (noteFrame (.ref a) X.env) _ _ _
    refine Sky.land Zc.steady hfr hf sky' fun h3 fl3 up3 => ?_
    have J3 : Inv X pins σ' H' { s' with heap := h3 } := J.landed nb fl3.1 (up.trans up3) os ag
    obtain ⟨oe3, vs3, he3, hz3, hd3⟩ := fl3.there
    have nfr : a ∉ frs (X.env :: X.outer) := fun hm => by
      obtain ⟨_, o', e', hnf⟩ := fl3.2.2.1.mem hm
      have z : some oe3 = some o' := he3.symm.trans e'
      cases z
      exact hnf _ hd3
    have nL : a ≠ X.env.locals := fun z => nfr (List.mem_filterMap.mpr ⟨X.env, List.mem_cons_self, by rw [hf, z]⟩)
    have nF : a ∉ X.fs := fun hm => by
      obtain ⟨e, he, q⟩ := List.mem_filterMap.mp hm
      exact nfr (List.mem_filterMap.mpr ⟨e, List.mem_cons_of_mem _ he, q⟩)
    have S3 := J3.suite he3 hd3 na nL nF
    have go : ∀ {hds' : List ExceptHandler} {l' : List Clause}, ClsOk X n hds' l' → wNames X.K i Wout D l' cls d σ' H' →
        wpAny (model X.prog X.w) X.A (handleBy (.ref a) X.env hds') (SP X pins D) X.xe { s' with heap := h3 } := by
      intro hds' l' hk
      induction hk with
      | nil =>
        intro w
        refine wpAny_handleBy_nil ?_
        obtain ⟨k1, k2, k3, oe, vs, T, oT, ts', he, hz, hd, h1, hr⟩ := id fl3
        unfold PySem.passOn
        refine wpAny_bind (wpAny_field he hd h1 ?_)
        rw [if_neg (show ¬ ((Value.ref T == Value.none) = true) from by simp)]
        have fin : wpAny (model X.prog X.w) X.A (setFlight (.ref a) X.env.frame) (fun _ s4 => wpAny (model X.prog X.w) X.A (throw (.ref a) : Sem Flow) (SP X pins D) X.xe s4) X.xe { s' with heap := h3 } := by
          rw [hf]
          refine HandSPX.setFlight_upZ fl3 fun h4 hh4 up4 => wpAny_throw (tk _ _ ?_)
          exact ⟨a, B, sI, pins, σ', H', cls, d, rfl, J, nb, (up.trans up3).trans up4, .inr (.inr (by rw [hs]; exact hh4)), na, os, ag, w⟩
        first
          | exact wpAny_bind (wpAny_pure (wpAny_bind fin))
          | exact wpAny_bind fin
      | @cons x c ts b₀ suite np pos' hds2 l2 hc hsu r ih =>
        intro w
        obtain ⟨b, hb1, hyes, hno⟩ := w
        refine wpAny_handleBy_cons (codeAny_handlers_test ?_) (by intro q; cases q)
        have LT : PySem.W.Looks (model X.prog X.w) h3 (typeOf (.ref a)) cls := fun A Q E s k q => wpAny_typeOf_ref (k _ _ he3) (by rw [hz3.1]; exact q)
        have LM := PySem.W.exm_one (M := model X.prog X.w) (J3.kIn) LT hb1
        have test : ∀ {Q : Value → Shared → Prop} {E : Value → Shared → Prop}, Q c { s' with heap := h3 } → wpAny (model X.prog X.w) (X.A.mark (some (.ref a))) (eval (.Name x np) X.env) Q E { s' with heap := h3 } := fun {Q E} q => by
          obtain ⟨hg, hdbg, hm | ⟨hm, hv, hnn⟩⟩ := hc
          · exact ld_glob (X := X.suite a ((a, oe3) :: (X.pn ++ pins))) S3 hg hm q hdbg
          · exact ld_blt (X := X.suite a ((a, oe3) :: (X.pn ++ pins))) S3 hg hm hv q hnn hdbg
        refine test (LM.here ?_)
        cases b with
        | true =>
          refine codeAny_handlers_suite_as ?_
          refine HandSPX.lands_againZ fl3 fun h4 fl4 up4 => ?_
          have J4 : Inv X pins σ' H' { s' with heap := h4 } := J.landed nb fl4.1 ((up.trans up3).trans up4) os ag
          obtain ⟨oe4, vs4, he4, hz4, hd4⟩ := fl4.there
          have S4 := J4.suite he4 hd4 na nL nF
          refine store_ok (X := X.suite a ((a, oe4) :: (X.pn ++ pins))) (v := .ref a) S4 hN hi hloc rfl (fun s5 S5 => ?_) (.inr hln)
          refine wpAny_mono ((hsu a oe4 cls d (X.pn ++ pins) hz4 ⟨_, hd4⟩).run [] s5 _ H' _ S5 (hyes rfl a na)) (fun f s6 hsp => ?_) (fun _ _ z => False.elim z)
          have end_ : ∀ {σ6 : L2.St} {H6 : Hp} {Q : Shared → Prop}, Inv (X.suite a ((a, oe4) :: (X.pn ++ pins))) [] σ6 H6 s6 → (∀ s7, Inv X pins (σ6.set i none) H6 s7 → Q s7) →
              wpAny (model X.prog X.w) X.A (do bindName X.env n .none; unbindBehindTheSuite X.env n pos') (fun _ s7 => Q s7) X.xe s6 := fun {σ6 H6 Q} S6 hq => gone_ok (S6.unsuite ok) hN hi hln hq
          cases f with
          | next =>
            obtain ⟨σ6, H6, S6, q6⟩ := hsp
            exact end_ S6 fun s7 J7 => ⟨_, _, J7, q6⟩
          | brk =>
            obtain ⟨σ6, H6, S6, q6⟩ := hsp
            exact end_ S6 fun s7 J7 => ⟨_, _, J7, q6⟩
          | cont =>
            obtain ⟨σ6, H6, S6, q6⟩ := hsp
            exact end_ S6 fun s7 J7 => ⟨_, _, J7, q6⟩
          | ret u =>
            obtain ⟨v6, σ6, H6, S6, r6, q6⟩ := hsp
            exact end_ S6 fun s7 J7 => ⟨_, _, _, J7, r6, q6⟩
        | false =>
          show wpAny _ X.A (handleBy (.ref a) X.env hds2) _ _ _
          exact ih (hno rfl)
    exact go hh w
  · cases f with
    | next =>
      obtain ⟨σ', H', J', q⟩ := hsp
      exact wpAny_execs_nil ⟨σ', H', J'.ofTry ok, q⟩
    | brk =>
      obtain ⟨σ', H', J', q⟩ := hsp
      exact ⟨σ', H', J'.ofTry ok, q⟩
    | cont =>
      obtain ⟨σ', H', J', q⟩ := hsp
      exact ⟨σ', H', J'.ofTry ok, q⟩
    | ret u =>
      obtain ⟨v, σ', H', J', r, q⟩ := hsp
      exact ⟨v, σ', H', J'.ofTry ok, r, q⟩
end

/-! ### x == y, x an instance with an own __eq__ -/
section
variable {X : Cx} {CX : CXT} {C f : Addr} {fd : FuncData} {ps : List Str} {sp : Sp} {E : XK} {k : Nat}
/-- y an instance of the same class | a tuple -/
def rOwnEq (K : PySem.W.Frag) (C : Addr) (sp : Sp) (E : XK) : R2 := fun x y H Q => ∃ a dx fs, x = .ref a ∧ H a = some (.ins C dx fs) ∧ ((∃ b dy gs, y = .ref b ∧ H b = some (.ins C dy gs)) ∨ ∃ b xs, y = .ref b ∧ SqT K H b xs) ∧ sp [x, y] H (fun v H' => (∃ r, v = .bl r) ∧ Q v H') E
theorem op_ownEq (F : FnOk X.prog X.w X.K X.mg X.base CX k f fd ps sp) (hr : Room k X.A) (hs : PySem.W.findIn X.K (.ref C) "__eq__" = some (some (.ref f))) (hf : PySem.W.isFn X.K (.ref f) = true) (hb : L2.Binds X.K fd ps []) (nf : PySem.W.notFirst X.K C (.type "tuple") = true) (hx : Passes CX X E) :
    OpR X (compareOp .Eq) (rOwnEq X.K C sp E) := by
  intro pins s σ H x y v u Q I rx ry hq
  obtain ⟨a, dx, fs, rfl, ha, hy, hsp⟩ := hq
  cases rx
  show wpAny (model X.prog X.w) X.A (richCompare .Eq (.ref a) u) (EP X pins σ Q) X.xe s
  obtain ⟨mA, J, _⟩ := ins_get I.hok ha
  obtain ⟨od, J, _⟩ := J.look
  obtain ⟨m, hF⟩ := I.fr
  have run : wpAny (model X.prog X.w) X.A (call (.ref f) [.ref a, u]) (PySem.W.CmpBack (EP X pins σ Q)) X.xe s := by
    have r2 : Vals [V.ref a, y] [Value.ref a, u] := .cons rfl (.cons ry .nil)
    refine wpAny_mono (run_fn (us := [.ref a, u]) (vs := [.ref a, y]) (dvs := []) (ds := []) F hr hb .nil hx I r2 (by rw [List.append_nil]; exact hsp)) (fun w s' h => ?_) fun _ _ z => z
    obtain ⟨z, H', I', rz, ⟨r, er⟩, q⟩ := h
    subst er
    cases rz
    show EP X pins σ Q (.bool r) s'
    exact ⟨.bl r, H', I', rfl, q⟩
  rcases hy with ⟨b, dy, gs, rfl, hb'⟩ | ⟨b, xs, rfl, hb'⟩
  · cases ry
    obtain ⟨mB, J', _⟩ := ins_get I.hok hb'
    obtain ⟨od', J', _⟩ := J'.look
    exact PySem.W.cmp_K (op := .Eq) (tb := .ref C) hr.units0 hF I.ok.mod.kin J J'.type (by simp [PySem.W.notFirst]) hs hf run
  · cases ry
    obtain ⟨its, rv, ⟨o, ho, hc, _⟩, _⟩ := I.tuple hb'
    exact PySem.W.cmp_K (op := .Eq) (tb := .type "tuple") hr.units0 hF I.ok.mod.kin J (fun A Q E s k q => wpAny_typeOf_ref (k _ _ ho) (by rw [hc]; exact q)) nf hs hf run
end
end Dx

/-! More rules: t[::-1] of a tuple, slices, in, a text walked, insert. -/
namespace Dx
open PySem PySem.Spec PyProof.Rows L2 Evl Ex
/-! ### t[::-1] -/
section
variable {prog : Program} {w : World} {A : Around} {E : Value → Shared → Prop} {s : Shared}
theorem adjust_rev (n : Nat) : Builtin.Slice.sliceAdjust none none (-1) (n : Int) = ((n : Int) - 1, -1) := by
  have h1 : ((-1 : Int) < 0) := by decide
  unfold Builtin.Slice.sliceAdjust
  simp only [h1, if_true]
theorem places_rev (n : Nat) : Builtin.Slice.slicePlaces ((n : Int) - 1) (-1) (-1) = n := by
  unfold Builtin.Slice.slicePlaces
  have h1 : ¬ ((-1 : Int) > 0) := by decide
  have h2 : ((n : Int) - 1 - -1 - 1) / (- -1) = (n : Int) - 1 := by
    rw [show (- -1 : Int) = 1 by decide, Int.ediv_one]
    omega
  simp only [h1, if_false, h2]
  split <;> omega
theorem fm_congr {α β : Type} {f g : α → Option β} : ∀ {l : List α}, (∀ x ∈ l, f x = g x) → l.filterMap f = l.filterMap g
  | [], _ => rfl
  | a :: l, h => by
    rw [List.filterMap_cons, List.filterMap_cons, h a List.mem_cons_self, fm_congr fun x hx => h x (List.mem_cons_of_mem _ hx)]
theorem pick_rev (xs : Array Value) : ((List.range xs.size).filterMap fun (m : Nat) => xs[(((xs.size : Nat) : Int) - 1 + (m : Int) * (-1)).toNat]?).toArray = xs.toList.reverse.toArray := by
  congr 1
  rw [← PySem.W.krv_all xs, ← List.filterMap_reverse, ← PySem.W.krv_range, List.filterMap_map]
  refine fm_congr fun m hm => ?_
  have := List.mem_range.mp hm
  show xs[(((xs.size : Nat) : Int) - 1 + (m : Int) * (-1)).toNat]? = xs[xs.size - 1 - m]?
  congr 1
  omega
theorem getItem_tuple_rev {t sl : Addr} {items : Array Value} {vs : Value} {Q : Value → Shared → Prop} (ht : IsTup s.heap t items) (hs : s.heap.IsSliceOf sl .none .none vs) (ps : IsPart vs (some (-1)))
    (h : Q (.ref s.heap.objs.size) { s with heap := s.heap.push { cls := .type "tuple", data := .seq items.toList.reverse.toArray } })
    (hsz : items.size ≤ sizeLine) : wpAny (model prog w) A (getItem (.ref t) (.ref sl)) Q E s := by
  have htake : sizeOk (.seq items.toList.reverse.toArray) := by
    show items.toList.reverse.toArray.size ≤ sizeLine
    rw [List.size_toArray, List.length_reverse, Array.length_toList]
    exact hsz
  obtain ⟨os, hos, hcs, hds⟩ := id hs
  have hTs : s.TypeIs (.ref sl) "slice" := ⟨os, hos, hcs⟩
  unfold getItem
  try with_reducible refine wpAny_holding ?_
  first | refine wpAny_bind (wpAny_pure ?_) | skip
  refine wpAny_bind (wpAny_sequenceKey ht.typeIs (by decide) ?_)
  refine wpAny_bind (wpAny_callSpecial?_slot (name := Str.ofString "__getitem__") ht.typeIs PyProof.Rows.slot_tuple_getitem
    (wpAny_call_entry PyProof.Rows.slot_tuple_getitem ht.typeIs entry_tuple_getitem ?_ (args_tuple_getitem _ _)))
  show wpAny _ _ (Builtin.Tuple.tupleItemsOf (.ref t) >>= _) _ _ s
  refine wpAny_bind (tupleItemsOf_ ht ?_)
  refine wpAny_bind (wpAny_typeOf hTs ?_)
  rw [if_pos (by decide)]
  have app : ∀ {R : Int × Int × Nat → Shared → Prop} {A' : Around} {E' : Value → Shared → Prop}, R (((items.size : Nat) : Int) - 1, -1, items.size) s → wpAny (model prog w) A' (Builtin.Slice.sliceApplied (.ref sl) (pure ((items.size : Nat) : Int))) R E' s := by
    intro R A' E' hR
    unfold Builtin.Slice.sliceApplied Builtin.Slice.sliceFields
    refine wpAny_bind (wpAny_bind (wpAny_field hos hds (x := .none) rfl (wpAny_bind (wpAny_field hos hds (x := .none) rfl (wpAny_bind (wpAny_field hos hds (x := vs) rfl (wpAny_pure ?_)))))))
    refine wpAny_bind (HT.slicePart_ ps ?_)
    show wpAny _ _ (if ((-1 : Int) == 0) = true then _ else _) _ _ s
    rw [if_neg (by decide)]
    refine wpAny_bind (slicePart_none (wpAny_bind (slicePart_none (wpAny_bind (wpAny_pure ?_)))))
    show wpAny _ _ (match Builtin.Slice.sliceAdjust none none (-1) ((items.size : Nat) : Int) with | (lo, hi) => pure (lo, (-1 : Int), Builtin.Slice.slicePlaces lo hi (-1))) _ _ s
    rw [adjust_rev]
    show wpAny _ _ (pure (((items.size : Nat) : Int) - 1, (-1 : Int), Builtin.Slice.slicePlaces (((items.size : Nat) : Int) - 1) (-1) (-1))) _ _ s
    rw [places_rev]
    exact wpAny_pure hR
  refine wpAny_bind (app ?_)
  have hno : ¬ ((((items.size : Nat) : Int) - 1 == 0 && (-1 : Int) == 1 && items.size == items.size) = true) := by
    intro q
    rw [Bool.and_eq_true, Bool.and_eq_true] at q
    exact absurd q.1.2 (by decide)
  show wpAny _ _ (if (((items.size : Nat) : Int) - 1 == 0 && (-1 : Int) == 1 && items.size == items.size) = true then _ else _) _ _ s
  rw [if_neg hno, pick_rev]
  first
    | exact wpAny_bind (m := Builtin.Tuple.tupleExact _) (wpAny_newObj_type (wpAny_pure ⟨_, rfl, wpAny_pure h⟩) htake)
    | exact wpAny_bind (m := Builtin.Tuple.tupleExact _) (wpAny_newObj_type (wpAny_bind (wpAny_pure (wpAny_pure ⟨_, rfl, wpAny_pure h⟩))) htake)
    | exact wpAny_bind (wpAny_bind (m := Builtin.Tuple.tupleExact _) (wpAny_newObj_type (wpAny_pure (wpAny_pure ⟨_, rfl, wpAny_pure h⟩)) htake))
    | exact wpAny_bind (wpAny_bind (m := Builtin.Tuple.tupleExact _) (wpAny_newObj_type (wpAny_pure ⟨_, rfl, wpAny_pure h⟩) htake))
end
section
variable {X : Cx}
def tRevT (K : PySem.W.Frag) (te : TE) : TE := fun σ H Q => te σ H fun x H1 => ∃ a xs, x = .ref a ∧ SqT K H1 a xs ∧ ∀ p, H1 p = none → Q (.ref p) (upd H1 p (.tup xs.reverse))
theorem pe_revT {e : Expr} {te : TE} {k : Nat} {p1 p2 p3 pos : Pos} (he : PE X e te) : PE X (.Subscript e (.Slice none none (some (.UnaryOp .USub (.Constant (.int 1) k p1) p2)) p3) pos) (tRevT X.K te) := by
  refine ⟨fun pins s σ H Q I h => ?_⟩
  refine Subscript_ (thn (he.run pins s σ H _ I h) fun v s1 ⟨x, H1, I1, r1, q1⟩ => ?_)
  obtain ⟨a, xs, ex, hx, q⟩ := q1
  subst ex
  cases r1
  have hst : PO X (some (.UnaryOp .USub (.Constant (.int 1) k p1) p2)) (tPart (tUn (rU fun i => .int (-i)) (tC (.int 1)))) := po_some (pe_un un_neg pe_int)
  refine wpAny_Slice (thn (po_none.run pins s1 σ H1 (fun o H2 => o = none ∧ H2 = H1) I1 ⟨rfl, rfl⟩) fun vl s2 ⟨l, H2, I2, pl, el, e2⟩ => ?_)
  subst el e2
  refine thn (po_none.run pins s2 σ H2 (fun o H3 => o = none ∧ H3 = H2) I2 ⟨rfl, rfl⟩) fun vu s3 ⟨u, H3, I3, pu, eu, e3⟩ => ?_
  subst eu e3
  refine thn (hst.run pins s3 σ H3 (fun o H4 => o = some (-1) ∧ H4 = H3) I3 ⟨1, rfl, -1, rfl, rfl, rfl⟩) fun vs s4 ⟨o, H4, I4, ps, eo, e4⟩ => ?_
  subst eo e4
  have I5 : Inv X pins σ H4 { s4 with heap := s4.heap.push { cls := .type "slice", data := .fields #[vl, vu, vs] } } := I4.kept (t' := s4.toks) fun b ob q => Heap.get?_push_of_some _ q
  obtain ⟨its, r, ht, hz⟩ := I5.tuple hx
  have hlen := r.length
  cases pl
  cases pu
  show wpAny (model X.prog X.w) X.A (subscriptTail e (.Slice none none (some (.UnaryOp .USub (.Constant (.int 1) k p1) p2)) p3) (.ref a) (.ref s4.heap.objs.size)) (EP X pins σ Q) X.xe { s4 with heap := s4.heap.push { cls := .type "slice", data := .fields #[.none, .none, vs] } }
  refine tail_any (ops := [.ref a, .ref s4.heap.objs.size]) ht.typeIs (PyProof.Rows.slot_tuple_getitem.lookup) ?_ (by with_unfolding_all rfl)
  refine getItem_tuple_rev ht (Heap.IsSliceOf.new _ .none .none vs) ps ?_ (by rw [List.size_toArray]; omega)
  refine ⟨.ref _, _, I5.laid (t' := s4.toks) (o := .tup xs.reverse) (fun b ob q => Heap.get?_push_of_some _ q) (Nat.le_refl _) ?_, rfl, q _ (I5.hok.fresh (Nat.le_refl _))⟩
  exact ⟨by rw [List.length_reverse]; exact hz, _, r.reverse, _, Heap.get?_push_size _ rfl, rfl, 0, rfl⟩
theorem pe_revTK (K : PySem.W.Frag) {e : Expr} {te : TE} {k : Nat} {p1 p2 p3 pos : Pos} (he : PE X e te) (hK : X.K = K := by rfl) : PE X (.Subscript e (.Slice none none (some (.UnaryOp .USub (.Constant (.int 1) k p1) p2)) p3) pos) (tRevT K te) := by subst hK; exact pe_revT he
end

/-! ### slices x[i:j] of tuples and texts -/
section
variable {X : Cx}
def rSlX (K : PySem.W.Frag) : V → Option Int → Option Int → Hp → VK → Prop := fun x lo hi H Q => rSlA K x lo hi H Q ∨ rSlS x lo hi H Q
theorem sl_anyK (K : PySem.W.Frag) (hK : X.K = K := by rfl) : SlR X (rSlX K) := by subst hK; exact sl_tupA.or sl_str
end
def EO (F : Fm) (to : TO) (σ : L2.St) (B : Hp) (o : Option Int) : Prop := ∀ B1, Ex B B1 → ∀ H, Ok F B1 H → ∀ Q : Option Int → Hp → Prop, (∀ B' H', Step F.M B1 H B' H' → Ok F B' H' → Q o H') → to σ H Q
def cutL {α : Type} (xs : List α) (lo hi : Option Int) : List α := (xs.drop (HT.sIx xs.length 0 lo)).take (HT.sIx xs.length xs.length hi - HT.sIx xs.length 0 lo)
section
variable {F : Fm} {K : PySem.W.Frag} {σ : L2.St} {B : Hp} {te : TE} {tl th : TO} {lo hi : Option Int} {ds : List PyData} {x y z d : PyData}
theorem eo_none : EO F tNoPart σ B none := fun B1 e0 H k Q q => q B1 H (Step.refl k.e) k
theorem eo_some {i : Int} (h : ED F K te σ B (.int i)) : EO F (tPart te) σ B (some i) := fun B1 e0 H k Q q => h B1 e0 H k _ fun v B2 H2 s2 k2 g => ⟨i, dd_int g, q B2 H2 s2 k2⟩
theorem cutL_len {α : Type} (xs : List α) (lo hi : Option Int) : (cutL xs lo hi).length ≤ xs.length := by
  unfold cutL
  rw [List.length_take, List.length_drop]
  omega
theorem ed_slT (h : ED F K te σ B (.tuple ds)) (hl : EO F tl σ B lo) (hh : EO F th σ B hi) : ED F K (tSl (rSlX K) te tl th) σ B (.tuple (cutL ds lo hi)) := fun B1 e0 H k Q q =>
  h B1 e0 H k _ fun v B2 H2 s2 k2 g => hl B2 (e0.trans s2.bb) H2 k2 _ fun B3 H3 s3 k3 => hh B3 ((e0.trans s2.bb).trans s3.bb) H3 k3 _ fun B4 H4 s4 k4 => by
    have gd := Dd.up g (s3.bb.trans s4.bb)
    obtain ⟨a, xs, rfl, h1, l1, g1⟩ := dd_tup gd
    have en := g1.len
    have ec : cutV xs lo hi = cutL xs lo hi := rfl
    refine .inl ⟨a, xs, rfl, ex_t k4.e h1, fun hw => ?_, fun hw p hp => ?_⟩
    · have ed : cutL ds lo hi = ds := by
        unfold cutL
        rw [en] at hw
        rw [hw.1, hw.2, List.drop_zero, Nat.sub_zero, List.take_length]
      refine q (.ref a) B4 H4 ((s2.trans s3).trans s4) k4 ?_
      rw [ed]
      exact gd
    · refine q (.ref p) _ _ (((s2.trans s3).trans s4).trans (Step.alloc k4.e hp)) (k4.alloc hp) (.tup (ta_of upd_same) ?_ ?_)
      · exact Nat.le_trans (cutV_length xs lo hi) l1
      · have g2 : DdAll K B4 (cutL xs lo hi) (cutL ds lo hi) := by
          unfold cutL
          rw [en]
          exact (g1.drop _).take _
        exact g2.up (Ex.new (fresh_back k4.e hp))
theorem ed_slS {s : Str} (h : ED F K te σ B (.str s)) (hl : EO F tl σ B lo) (hh : EO F th σ B hi) (hz : (cutS s lo hi).length ≤ 16777216) : ED F K (tSl (rSlX K) te tl th) σ B (.str (cutS s lo hi)) := fun B1 e0 H k Q q =>
  h B1 e0 H k _ fun v B2 H2 s2 k2 g => hl B2 (e0.trans s2.bb) H2 k2 _ fun B3 H3 s3 k3 => hh B3 ((e0.trans s2.bb).trans s3.bb) H3 k3 _ fun B4 H4 s4 k4 => by
    obtain ⟨rfl, hl⟩ := dd_str g
    exact .inr ⟨s, rfl, hl, q _ B4 H4 ((s2.trans s3).trans s4) k4 (.str _ (by rw [sizeLine_eq]; exact hz))⟩
theorem ed_rev (h : ED F K te σ B (.tuple ds)) : ED F K (tRevT K te) σ B (.tuple ds.reverse) := fun B1 e0 H k Q q =>
  h B1 e0 H k _ fun v B2 H2 s2 k2 g => by
    obtain ⟨a, xs, rfl, h1, l1, g1⟩ := dd_tup g
    exact ⟨a, xs, rfl, ex_t k2.e h1, fun p hp => q _ _ _ (s2.trans (Step.alloc k2.e hp)) (k2.alloc hp) (.tup (ta_of upd_same) (by rw [List.length_reverse]; exact l1) ((g1.rev).up (Ex.new (fresh_back k2.e hp))))⟩

/-! ### x in xs, flat -/
def flatD : PyData → Bool
  | .none => true
  | .bool _ => true
  | .int _ => true
  | .str _ => true
  | _ => false
theorem flat_dv {H : Hp} {v : V} (h : Dd K H v d) (f : flatD d = true) : flatV v = true := by
  cases h <;> first | rfl | cases f
theorem eqV_dv {H : Hp} {v u : V} {e : PyData} (h : Dd K H v d) (g : Dd K H u e) (f : flatD d = true) (f' : flatD e = true) : eqV v u = PyData.eqv d e := by
  cases h <;> cases g <;> first | rfl | (cases f) | (cases f') | (simp [eqV, PyData.eqv])
theorem flats_dv {H : Hp} : ∀ {vs : List V} {ds : List PyData}, DdAll K H vs ds → ds.all flatD = true → vs.all flatV = true
  | _, _, .nil, _ => rfl
  | _, _, .cons a t, f => by
    rw [List.all_cons, Bool.and_eq_true] at f
    rw [List.all_cons, flat_dv a f.1, flats_dv t f.2]
    rfl
theorem inV_dv {H : Hp} {v : V} (h : Dd K H v d) (f : flatD d = true) : ∀ {vs : List V} {ds : List PyData}, DdAll K H vs ds → ds.all flatD = true → inV v vs = ds.any fun e => PyData.eqv e d
  | _, _, .nil, _ => rfl
  | _, _, .cons a t, g => by
    rw [List.all_cons, Bool.and_eq_true] at g
    have ih := inV_dv h f t g.2
    unfold inV at ih ⊢
    rw [List.any_cons, List.any_cons, ih, eqV_dv a h g.1 f]
def inD (d : PyData) (ds : List PyData) : Bool := ds.any fun e => PyData.eqv e d
theorem rd_in {neg : Bool} (hy : y = .list ds ∨ y = .tuple ds) (f : flatD x = true) (g : ds.all flatD = true) : RD2 F K (rIn K neg) B x y (.bool (if neg then !inD x ds else inD x ds)) := rd_of fun H u v hu hv => by
  rcases hy with rfl | rfl
  · obtain ⟨a, xs, rfl, h1, l1, g1⟩ := dd_lst hv
    refine ⟨.bl (if neg then !inD x ds else inD x ds), fun _ => .bl _, fun Q q => ⟨a, xs, rfl, .inl (sq_of h1), flat_dv hu f, flats_dv g1 g, ?_⟩⟩
    rw [inV_dv hu f g1 g]
    exact q
  · obtain ⟨a, xs, rfl, h1, l1, g1⟩ := dd_tup hv
    refine ⟨.bl (if neg then !inD x ds else inD x ds), fun _ => .bl _, fun Q q => ⟨a, xs, rfl, .inr h1, flat_dv hu f, flats_dv g1 g, ?_⟩⟩
    rw [inV_dv hu f g1 g]
    exact q
theorem rd_isin (hy : y = .list ds ∨ y = .tuple ds) (f : flatD x = true) (g : ds.all flatD = true) : RD2 F K (rIn K false) B x y (.bool (inD x ds)) := rd_in (neg := false) hy f g
theorem rd_notin (hy : y = .list ds ∨ y = .tuple ds) (f : flatD x = true) (g : ds.all flatD = true) : RD2 F K (rIn K true) B x y (.bool (!inD x ds)) := rd_in (neg := true) hy f g
/-! ### all, is, texts -/
theorem bls_dv {H : Hp} : ∀ {vs : List V} {bs : List Bool}, DdAll K H vs (bs.map .bool) → vs = bs.map V.bl
  | _, [], h => by cases h; rfl
  | _, b :: bs, h => by
    cases h with
    | cons a t =>
      rw [dd_bl a, bls_dv t]
      rfl
theorem rc_all {bs : List Bool} : RDc F K (rAll K) B [.list (bs.map .bool)] (.bool (bs.all id)) := rc_of fun H u hu => by
  obtain ⟨a, xs, rfl, h1, l1, g1⟩ := dd_lst hu
  exact ⟨.bl (bs.all id), fun _ => .bl _, fun Q q => ⟨a, bs, rfl, by rw [← bls_dv g1]; exact sq_of h1, q⟩⟩
theorem rd_isB {a b : Bool} : RD2 F K rIsB B (.bool a) (.bool b) (.bool (decide (a = b))) := rd_of fun H u v hu hv => ⟨.bl _, fun _ => .bl _, fun Q q => ⟨a, b, dd_bl hu, dd_bl hv, q⟩⟩
theorem rd_ltS {a b : Str} : RD2 F K (fun x y H Q => ∃ i j, x = .str i ∧ y = .str j ∧ Q (.bl (decide (i.cps.toList < j.cps.toList))) H) B (.str a) (.str b) (.bool (decide (a.cps.toList < b.cps.toList))) := rd_of fun H u v hu hv => ⟨.bl _, fun _ => .bl _, fun Q q => ⟨a, b, (dd_str hu).1, (dd_str hv).1, q⟩⟩
theorem rd_gtS {a b : Str} : RD2 F K (fun x y H Q => ∃ i j, x = .str i ∧ y = .str j ∧ Q (.bl (decide (j.cps.toList < i.cps.toList))) H) B (.str a) (.str b) (.bool (decide (b.cps.toList < a.cps.toList))) := rd_of fun H u v hu hv => ⟨.bl _, fun _ => .bl _, fun Q q => ⟨a, b, (dd_str hu).1, (dd_str hv).1, q⟩⟩
theorem rd_leS {a b : Str} : RD2 F K (fun x y H Q => ∃ i j, x = .str i ∧ y = .str j ∧ Q (.bl (!decide (j.cps.toList < i.cps.toList))) H) B (.str a) (.str b) (.bool (!decide (b.cps.toList < a.cps.toList))) := rd_of fun H u v hu hv => ⟨.bl _, fun _ => .bl _, fun Q q => ⟨a, b, (dd_str hu).1, (dd_str hv).1, q⟩⟩
theorem rd_rep {n : Int} (h0 : ds ≠ []) (h1 : 2 ≤ n) (h2 : n ≤ 1000) (h3 : ds.length ≤ 1000) : RD2 F K (rRepT K) B (.tuple ds) (.int n) (.tuple (List.replicate n.toNat ds).flatten) := fun B1 e0 H u v k hu hv Q q => by
  obtain ⟨a, xs, rfl, g1, l1, g2⟩ := dd_tup hu
  have en := g2.len
  refine ⟨a, n, xs, rfl, dd_int hv, ex_t k.e g1, fun z => h0 ?_, h1, h2, by rw [en]; exact h3, fun p hp => q _ _ _ (Step.alloc k.e hp) (k.alloc hp) (.tup (ta_of upd_same) ?_ ((g2.rep _).up (Ex.new (fresh_back k.e hp))))⟩
  · rw [z] at en
    exact List.eq_nil_of_length_eq_zero en.symm
  · rw [List.length_flatten, List.map_replicate, List.sum_replicate_nat, en, sizeLine_eq]
    have : n.toNat ≤ 1000 := by omega
    exact Nat.le_trans (Nat.mul_le_mul this h3) (by decide)
/-- [te for c in s if tt], s a text -/
def sgn (c : Nat) : Str := ⟨#[c]⟩
theorem ed_lcS {tt : TT} {j : Nat} {vsN : List Nat} {s : Str} (p : Nat → Bool) (g : Nat → PyData) (h : ED F K te σ B (.str s)) (hw : ∀ x, wipe ((wipe σ vsN).set j (some x)) vsN = wipe σ vsN) {tel : TE}
    (ht : ∀ c B1, c ∈ s.cps.toList → Ex B B1 → ETt F tt ((wipe σ vsN).set j (some (.str (sgn c)))) B1 (p c))
    (he : ∀ c B1, c ∈ s.cps.toList → p c = true → Ex B B1 → ED F K tel ((wipe σ vsN).set j (some (.str (sgn c)))) B1 (g c)) :
    ED F K (tLc (iStr te) (gName j) tt tel vsN) σ B (.list ((s.cps.toList.filter p).map g)) := fun B0 e0 H0 k0 Q q => by
  refine h B0 e0 H0 k0 _ fun v B1 H1 s1 k1 pv => ?_
  obtain ⟨rfl, hl⟩ := dd_str pv
  have hsz : s.cps.toList.length = s.length := by simp [Str.length]
  have fl : ∀ i, ((s.cps.toList.take i).filter p).length ≤ i := fun i => Nat.le_trans (List.length_filter_le _ _) (by rw [List.length_take]; exact Nat.min_le_left _ _)
  rw [sizeLine_eq] at hl
  refine ⟨s, rfl, fun Dl hD => ⟨fun i m H' => m = s.cps.size - i ∧ i ≤ s.cps.size ∧ Cq F K B1 H1 Dl (((s.cps.toList.take i).filter p).map g) H', ⟨s.cps.size, by simp, Nat.zero_le _, cq_start k1 hD⟩, ?_⟩⟩
  rintro i m H' ⟨rfl, hi, c⟩
  by_cases hlt : i < s.cps.size
  · refine .inr ⟨hlt, fun H2 => Cq F K B1 H1 Dl (((s.cps.toList.take (i + 1)).filter p).map g) H2, fun H2 c2 => ⟨s.cps.size - (i + 1), by omega, rfl, hlt, c2⟩, ?_⟩
    rintro x H2 ⟨rfl, ch, hc, rfl⟩
    have hc' : s.cps.toList[i]? = some ch := by
      rw [Array.getElem?_toList]
      exact hc
    refine ⟨hw _, ?_⟩
    rw [take_snoc hc', filter_snoc]
    exact cq_turn k1 hD (by rw [List.length_map]; exact Nat.lt_of_le_of_lt (fl i) (by have : s.cps.size = s.length := rfl; omega)) c (fun B' e => ht ch B' (List.mem_of_getElem? hc') ((e0.trans s1.bb).trans e)) (fun hp B' e => he ch B' (List.mem_of_getElem? hc') hp ((e0.trans s1.bb).trans e))
  · have e : i = s.cps.size := by omega
    subst e
    refine .inl ⟨Nat.le_refl _, ?_⟩
    rw [show s.cps.size = s.cps.toList.length from by simp, List.take_length] at c
    obtain ⟨B2, s2, k2, g2⟩ := cq_done k1 hD (by rw [List.length_map]; exact Nat.le_trans (List.length_filter_le _ _) (by omega)) c
    exact q _ B2 _ (s1.trans s2) k2 g2
end
end Dx

/-! [.. for x, y in pairs if ..]: a comprehension whose target is a pair of names. -/
namespace Dx
open PySem PySem.Spec PyProof.Rows L2 Evl
section
variable {F : Fm} {K : PySem.W.Frag} {σ : L2.St} {B : Hp} {tl te : TE} {tt : TT} {i j : Nat} {ds : List PyData} {vsN : List Nat}
abbrev g2 (K : PySem.W.Frag) (i j : Nat) : TG := gTup K 2 (gCons (gName i) (gCons (gName j) gNil))
theorem ed_lcP (p : PyData → Bool) (g : PyData → PyData) (h : EV F tl σ B (SqV K (DDs K ds))) (hz : ds.length ≤ 16777216) (hp : ∀ d ∈ ds, ∃ x y, d = .tuple [x, y]) (hw : ∀ u v, wipe (((wipe σ vsN).set i (some u)).set j (some v)) vsN = wipe σ vsN)
    (ht : ∀ x y u v B1, PyData.tuple [x, y] ∈ ds → Ex B B1 → Dd K B1 u x → Dd K B1 v y → ETt F tt (((wipe σ vsN).set i (some u)).set j (some v)) B1 (p (.tuple [x, y])))
    (he : ∀ x y u v B1, PyData.tuple [x, y] ∈ ds → p (.tuple [x, y]) = true → Ex B B1 → Dd K B1 u x → Dd K B1 v y → ED F K te (((wipe σ vsN).set i (some u)).set j (some v)) B1 (g (.tuple [x, y]))) :
    ED F K (tLc (iSeq K tl) (g2 K i j) tt te vsN) σ B (.list ((ds.filter p).map g)) := fun B0 e0 H0 k0 Q q => by
  refine h B0 e0 H0 k0 _ fun v B1 H1 s1 k1 pv => ?_
  obtain ⟨l, vs, rfl, hl, ps⟩ := pv
  have ps' : DdAll K B1 vs ds := ps
  have en := ps'.len
  have fl : ∀ i, ((ds.take i).filter p).length ≤ i := fun i => Nat.le_trans (List.length_filter_le _ _) (by rw [List.length_take]; exact Nat.min_le_left _ _)
  have turn : ∀ (Dl : Addr), H1 Dl = none → ∀ n x H', vs[n]? = some x → Cq F K B1 H1 Dl (((ds.take n).filter p).map g) H' → g2 K i j x (wipe σ vsN) H' fun σ2 H2 => wipe σ2 vsN = wipe σ vsN ∧ tt σ2 H2 fun b H3 =>
      if b = true then te σ2 H3 fun y H4 => ∃ acc, H4 Dl = some (.lst acc) ∧ acc.length < sizeLine ∧ Cq F K B1 H1 Dl (((ds.take (n + 1)).filter p).map g) (upd H4 Dl (.lst (acc ++ [y]))) else Cq F K B1 H1 Dl (((ds.take (n + 1)).filter p).map g) H3 := by
    intro Dl hD n x H' hx c
    obtain ⟨d, hd, hdv⟩ := ps'.getv hx
    have hm : d ∈ ds := List.mem_of_getElem? hd
    have hi : n < ds.length := (List.getElem?_eq_some_iff.mp hd).1
    obtain ⟨a, b, rfl⟩ := hp d hm
    obtain ⟨t, us, rfl, h1, _, hus⟩ := dd_tup hdv
    obtain ⟨u, w, rfl, hu, hw'⟩ := arg2 hus
    obtain ⟨B', acc, s, k, hb, hd', ha⟩ := id c
    refine ⟨t, _, rfl, ex_t (s.bb.trans k.e) h1, rfl, u, _, rfl, w, _, rfl, rfl, hw u w, ?_⟩
    rw [take_snoc hd, filter_snoc]
    exact cq_turn k1 hD (by rw [List.length_map]; exact Nat.lt_of_le_of_lt (fl n) (by omega)) c (fun B' e => ht a b u w B' hm ((e0.trans s1.bb).trans e) (hu.up e) (hw'.up e)) (fun hpt B' e => he a b u w B' hm hpt ((e0.trans s1.bb).trans e) (hu.up e) (hw'.up e))
  have fin : ∀ (Dl : Addr), H1 Dl = none → ∀ H', Cq F K B1 H1 Dl (((ds.take vs.length).filter p).map g) H' → Q (.ref Dl) H' := by
    intro Dl hD H' c
    rw [en, List.take_length] at c
    obtain ⟨B2, s2, k2, g2⟩ := cq_done k1 hD (by rw [List.length_map]; exact Nat.le_trans (List.length_filter_le _ _) hz) c
    exact q _ B2 H' (s1.trans s2) k2 g2
  refine ⟨l, rfl, ?_⟩
  rcases hl with hl | hl
  · refine .inl ⟨⟨vs, ex_l k1.e hl⟩, fun Dl hD => lc_list (K := K) (xs := vs) (fun i => Cq F K B1 H1 Dl (((ds.take i).filter p).map g)) (cq_start k1 hD) (fun i H' _ c => ?_) (fun i x H' hx c => turn Dl hD i x H' hx c) (fun H' c => fin Dl hD H' c)⟩
    obtain ⟨B', acc, s, k, _⟩ := c
    exact ex_l k.e (ex_l s.bb hl)
  · refine .inr ⟨⟨vs, ex_t k1.e hl⟩, fun Dl hD => lc_tup (K := K) (xs := vs) (fun i => Cq F K B1 H1 Dl (((ds.take i).filter p).map g)) (cq_start k1 hD) (fun i H' _ c => ?_) (fun i x H' hx c => turn Dl hD i x H' hx c) (fun H' c => fin Dl hD H' c)⟩
    obtain ⟨B', acc, s, k, _⟩ := c
    exact ex_t k.e (ex_t s.bb hl)
end
end Dx

/-! list.extend of a tuple, list.count of texts, list(reversed(a tuple)). -/
namespace Qx
open PySem PySem.Spec PyProof.Rows L2
open AutoSeq1 (wpAny_loadPart')

/-! ### x.extend(a tuple) -/
theorem extend_tuple (l : Addr) (items : Array Value) (n : Nat) (b : Addr) (dd : Option Addr) (sl : Array (Option Value)) (items2 : Array Value) (n2 : Nat) (hs0 : ¬(!items.isEmpty && Builtin.List.listTooLong (items.size + items2.size)) = true) (hs1 : items.size ≤ sizeLine) (hs2 : items.size + items2.size ≤ sizeLine + 1) :
    Meets (Builtin.«list.extend» ⟨[.ref l, .ref b], []⟩) (fun _ R s => s.heap.get? l = some { cls := .type "list", dict := none, data := .seq items n, slots := #[] } ∧ s.heap.get? b = some { cls := .type "tuple", dict := dd, data := .seq items2 n2, slots := sl } ∧ R (.ok (.ret Value.none)) { s with heap := s.heap.update l (Obj.mapSeq fun x => x ++ items2), toks := s.toks }) :=
  .of_wp fun prog w A R s h => by
    obtain ⟨hp, g, d, tk, os⟩ := s; obtain ⟨hl, hb, h⟩ := h; have f1 := AutoSeq1.idx_int; have f2 := AutoSeq1.sub_tuple_tuple; have f3 := AutoSeq1.sub_list_list; have f4 := AutoSeq1.sub_tuple_list; have f5 := AutoSeq1.sub_list_tuple;
    have hz' : (items ++ items2).size ≤ sizeLine + 1 := by rw [Array.size_append]; exact hs2
    wp_walk using (wpAny_updateSeq hl rfl (hz := hs1) (_hz' := hz')), wpAny_loadPart' hl, wpAny_loadPart' hb; exact ⟨_, rfl, h⟩
section
variable {X : Cx}
def rExtendT (K : PySem.W.Frag) : V → List V → Hp → VK → Prop := fun x vs H Q => ∃ l b xs zs, x = .ref l ∧ vs = [.ref b] ∧ H l = some (.lst xs) ∧ SqT K H b zs ∧ xs.length + zs.length ≤ sizeLine ∧ Q .non (upd H l (.lst (xs ++ zs)))
theorem mt_extendT (K : PySem.W.Frag) (hK : X.K = K := by rfl) : MtM X "list.extend" (rExtendT K) := by
  subst hK
  intro pins s σ H x vs v us Q I rx rv h
  obtain ⟨l, b, xs, zs, rfl, rfl, hH, hB, hz, q⟩ := h
  cases rx
  obtain ⟨u, rfl, ru⟩ := rv.one
  cases ru
  obtain ⟨z, its, n, r, hl, e⟩ := I.lstM hH
  obtain ⟨its2, r2, ⟨⟨cls, dd, data, sl⟩, e2, hc, n2, hd⟩, hl2⟩ := I.tuple hB
  simp only at hc hd
  subst hc hd
  have hl3 := r2.length
  have hsz : its.toArray.size + its2.toArray.size ≤ sizeLine := by rw [List.size_toArray, List.size_toArray]; omega
  have hlong : ¬ (!its.toArray.isEmpty && Builtin.List.listTooLong (its.toArray.size + its2.toArray.size)) = true := by
    rw [notLongL hsz, Bool.and_false]
    exact Bool.false_ne_true
  refine call_meets F.slot_list_extend ⟨_, e, rfl⟩ F.entry_list_extend (F.args_list_extend_2 _ _)
    (extend_tuple l its.toArray n b dd sl its2.toArray n2 hlong (by rw [List.size_toArray]; omega) (by omega)) ⟨e, e2, ?_⟩
  refine ⟨.non, _, I.lset (its' := its ++ its2) hH e (by simp) (r.append r2) ?_, rfl, q⟩
  rw [List.length_append]
  omega

/-! ### x.count(text), x a list of texts -/
def eqs (k : Str) (v : Value) : Bool := match v with
  | .str n _ => n == k
  | _ => false
theorem strs_of {xs : List Str} : ∀ {us : List Value}, Vals (xs.map V.str) us → (∀ y ∈ us, ∃ x t, y = .str x t) ∧ ∀ k, us.countP (eqs k) = xs.count k := by
  induction xs with
  | nil =>
    intro us r
    cases r
    exact ⟨fun y hy => (nomatch hy), fun k => rfl⟩
  | cons x xs ih =>
    intro us r
    cases r with
    | cons a t =>
      obtain ⟨h1, h2⟩ := ih t
      obtain ⟨tk, rfl⟩ := a
      refine ⟨fun y hy => ?_, fun k => ?_⟩
      · rcases List.mem_cons.mp hy with rfl | hy
        · exact ⟨_, _, rfl⟩
        · exact h1 y hy
      · rw [List.countP_cons, List.count_cons, h2 k]
        rfl
def rCntS (K : PySem.W.Frag) : V → List V → Hp → VK → Prop := fun x xs H Q => ∃ (p : Addr) (ns : List Str) (k : Str), x = .ref p ∧ xs = [.str k] ∧ SqL K H p (ns.map V.str) ∧ Q (.int (ns.count k : Nat)) H
theorem mt_scount (K : PySem.W.Frag) (hK : X.K = K := by rfl) : MtR X "list.count" (rCntS K) := by
  subst hK
  intro pins s σ H x xs v us Q I rx rxs h
  obtain ⟨p, ns, k, rfl, rfl, hs, q⟩ := h
  cases rx
  obtain ⟨u, rfl, ru⟩ := rxs.one
  obtain ⟨t, rfl⟩ := ru
  obtain ⟨its, rv, ⟨⟨cls, dd, data, sl⟩, n, ho, hc, hdn, hd⟩, hlen⟩ := I.list hs
  simp only at hc hd
  subst hc hd
  obtain ⟨hi, ec⟩ := strs_of rv
  refine call_meets PySem.F.slot_list_count ⟨_, ho, rfl⟩ PySem.F.entry_list_count (PySem.F.args_list_count_2 _ _)
    (SeqAt.list_countAt p its.toArray n dd sl (.str k t) (eqs k)) ⟨ho, fun y hy => ?_, ?_⟩
  · obtain ⟨x, t', rfl⟩ := hi y (by simpa using hy)
    exact SeqAt.EqAt.str_str x t' k t
  · refine ⟨.int (ns.count k : Nat), H, I.tok _, ⟨s.toks, ?_⟩, q⟩
    show Value.int ((its.toArray.toList.countP (eqs k) : Nat) : Int) s.toks = Value.int ((ns.count k : Nat) : Int) s.toks
    rw [ec k]
end

/-! ### list(reversed(a tuple)) -/
theorem nolen_rt : typeLookup (.type "reversed") "__len__" = pure none := by rw [typeLookup_type, builtinLookup_eq_fast]; kernel_rfl
theorem hint_rt : typeLookup (.type "reversed") "__length_hint__" = pure (some (.builtin "reversed.__length_hint__")) := by rw [typeLookup_type, builtinLookup_eq_fast]; kernel_rfl
theorem walks_rt {prog : Program} {w : World} {A : Around} (hh : A.handled = none) (I l : Addr) (hne : l ≠ I) (items : Array Value) (hz : items.size ≤ sizeLine) :
    Walks prog w A I [I, l] [I] items.size (fun i v => items[items.size - 1 - i]? = some v) (fun i h => i ≤ items.size ∧ RT.IsRt h I l ((items.size : Int) - 1 - (i : Int)) ∧ IsTup h l items) where
  sub := fun b hb => by simp at hb; simp [hb]
  frame := fun _ _ _ x hk => ⟨x.1, x.2.1.at fun o e => hk I (by simp) o e, let ⟨o, ho, r⟩ := x.2.2; ⟨o, hk l (by simp) o ho, r⟩⟩
  item := fun i s Q E hi x hQ => by
    have e : (items.size : Int) - 1 - (i : Int) = ((items.size - 1 - i : Nat) : Int) := by omega
    have hit := x.2.1
    rw [e] at hit
    have hx : items[items.size - 1 - i]? = some (items[items.size - 1 - i]'(by omega)) := Array.getElem?_eq_getElem (by omega)
    refine RT.next_rt_item hit x.2.2 hx hz fun h' hit' hs' => ?_
    have e2 : ((items.size - 1 - i : Nat) : Int) - 1 = (items.size : Int) - 1 - ((i + 1 : Nat) : Int) := by omega
    rw [e2] at hit'
    exact hQ _ h' (s.toks + 1) hx ⟨hi, hit', let ⟨o, ho, r⟩ := x.2.2; ⟨o, (hs'.2 l hne).trans ho, r⟩⟩ fun b o hb eo => hs'.extBut b o (fun h => hb (by simp [h])) eo
  done := fun s Q E x hQ => by
    have e : (items.size : Int) - 1 - (items.size : Int) = -1 := by omega
    have hit := x.2.1
    rw [e] at hit
    exact RT.next_rt_end hh hit fun h' he' => hQ h' s.toks fun b o hb eo => he' b o (fun h => hb (by simp [h])) eo
  self := fun _ _ _ _ x hQ => RT.iter_rt x.2.1 hQ
theorem slot_rt_hint : Slot "reversed" "__length_hint__" "reversed.__length_hint__" :=
  .of (owner := "reversed") (n := "__length_hint__") (by rw [typeLookup_type, builtinLookup_eq_fast]; kernel_rfl) (by decide +kernel) (by decide +kernel) (by decide +kernel)
    (by first | exact .inl (by decide +kernel) | exact .inr (by decide +kernel)) (by rw [isSubtype_type]; kernel_rfl)
theorem entry_rt_hint : entryFor table "reversed.__length_hint__" = some Builtin.«reversed.__length_hint__» := entryFor_of_tree (by kernel_rfl)
theorem args_rt_hint (a : Value) : argsOk "reversed.__length_hint__" ⟨[a], []⟩ := by
  unfold argsOk; rw [signature?_of (id := "reversed.__length_hint__") (n := ['_', '_', 't', 'n', 'i', 'h', '_', 'h', 't', 'g', 'n', 'e', 'l', '_', '_']) (o := ['d', 'e', 's', 'r', 'e', 'v', 'e', 'r']) (by kernel_rfl) RT.owner_rt]; kernel_rfl
section
variable {prog : Program} {w : World} {A : Around} {E : Value → Shared → Prop} {s : Shared}
theorem call_hint_rt {it t : Addr} {items : Array Value} {Q : Value → Shared → Prop} (hit : RT.IsRt s.heap it t ((items.size : Int) - 1)) (ht : IsTup s.heap t items) (hsz : items.size ≤ sizeLine)
    (h : ∀ u k, s.toks ≤ k → Q (.int (items.size : Nat) u) { s with toks := k }) : wpAny (model prog w) A (call (.builtin "reversed.__length_hint__") [.ref it]) Q E s := by
  obtain ⟨o, ho, hc, hd⟩ := id hit
  rw [sizeLine_eq] at hsz
  refine wpAny_call_entry slot_rt_hint hit.typeIs entry_rt_hint ?_ (args_rt_hint _)
  unfold Builtin.«reversed.__length_hint__»
  refine wpAny_bind (wpAny_of_eq (a := Value.ref it) rfl ?_)
  try dsimp only
  refine wpAny_bind (wpAny_field ho hd (x := .ref t) rfl ?_)
  try dsimp only
  rw [if_neg (show ¬ ((Value.ref t == Value.none) = true) from by simp)]
  try dsimp only
  refine wpAny_bind (len_tuple ht (by omega) ?_)
  refine wpAny_bind (wpAny_of_eq (a := some ((items.size : Nat) : Int)) rfl ?_)
  try dsimp only
  refine wpAny_bind (wpAny_field (s := { s with toks := s.toks + 1 + 1 }) ho hd (x := rawInt ((items.size : Int) - 1)) rfl ?_)
  try dsimp only
  have e1 : (items.size : Int) - 1 + 1 = (items.size : Nat) := by omega
  show wpAny _ _ (if ((items.size : Nat) : Int) < (items.size : Int) - 1 + 1 then _ else _) _ _ _
  rw [if_neg (by omega), e1]
  unfold retInt
  refine wpAny_bind (wpAny_mkInt ?_)
  exact wpAny_pure ⟨_, rfl, h _ _ (by show s.toks ≤ s.toks + 1 + 1 + 1; omega)⟩
end
section
variable {prog : Program} {w : World} {A : Around} {s : Shared} {R : Result → Shared → Prop}
theorem extend_rt (hh : A.handled = none) {I l : Addr} {items : Array Value} (hne : l ≠ I) (hz : items.size ≤ sizeLine) (hit : RT.IsRt s.heap I l ((items.size : Int) - 1)) (ht : IsTup s.heap l items) (S : Addr) (res : Value) (c₀ : Nat) (hSI : S ≠ I) (hSl : S ≠ l)
    (hS : s.heap.get? S = some { cls := .type "list", data := .seq #[] c₀ })
    (hR : ∀ s' acc' c', Moved [S, I] (fun a b => b = a) s s' → s'.heap.get? S = some { cls := .type "list", dict := none, data := .seq acc' c', slots := #[] } → ItemsOf (fun i v => items[items.size - 1 - i]? = some v) acc' items.size → R (.ok (.ret res)) s') :
    wpAny (model prog w) A.in1 (Builtin.List.listExtendWith (.ref S) (.ref I) res)
      (fun fin s' => match fin with | .done f => R (.ok f) s' | .again c' => c'.quiet = true ∧ codeAny (model prog w) A c' R s') (fun e s' => R (.error e) s') s := by
  have W := (walks_rt (prog := prog) (w := w) (A := A.in1) hh I l hne items hz).toS
  have hSf : S ∉ [I, l] := by simp [hSI, hSl]
  have e0 : ((items.size : Nat) : Int) - 1 - ((0 : Nat) : Int) = (items.size : Int) - 1 := by omega
  have hst : (fun (i : Nat) (s : Shared) => i ≤ items.size ∧ RT.IsRt s.heap I l ((items.size : Int) - 1 - (i : Int)) ∧ IsTup s.heap l items) 0 s := ⟨Nat.zero_le _, by rw [e0]; exact hit, ht⟩
  unfold Builtin.List.listExtendWith
  refine wpAny_bind (wpAny_typeOf hit.typeIs ?_)
  have h1 : Builtin.List.listSameRef (.ref S) (.ref I) = false := by simp [Builtin.List.listSameRef, hSI]
  have h2 : (Value.type "reversed" == Value.type "list") = false := by decide
  have h3 : (Value.type "reversed" == Value.type "tuple") = false := by decide
  simp only [h1, h2, h3, Bool.or_false, Bool.false_eq_true, if_false]
  refine wpAny_bind (W.self 0 _ _ _ hst ?_)
  refine wpAny_bind (wpAny_holding ?_)
  unfold Builtin.List.listLengthHint
  refine wpAny_bind (wpAny_specialOf hit.typeIs nolen_rt ?_)
  show wpAny _ A.in1 (specialOf (Value.ref I) (Str.ofString "__length_hint__") >>= _) _ _ _
  refine wpAny_bind (wpAny_specialOf hit.typeIs hint_rt ?_)
  generalize hid : ("reversed.__length_hint__" : String) = id0
  wp_delta
  rw [show splitId id0 = some ("reversed", "__length_hint__") from by subst hid; decide +kernel]
  subst hid
  refine wpAny_bind (wpAny_isInstance (b := true) hit.typeIs (by rw [isSubtype_type]; kernel_rfl) ?_)
  try dsimp only
  rw [if_neg (by decide)]
  rw [if_neg (by decide +kernel)]
  refine wpAny_bind (wpAny_rule ?_)
  refine wpAny_bind (wpAny_of_eq (slot_rt_hint.bind _) ?_)
  try dsimp only
  refine wpAny_bind (wpAny_attempt (call_hint_rt (items := items) hit ht hz fun u k hk => ?_))
  try dsimp only
  have hf : Builtin.List.listFitsIndex ((items.size : Nat) : Int) = true := by
    rw [sizeLine_eq] at hz
    unfold Builtin.List.listFitsIndex
    simp only [Bool.and_eq_true, decide_eq_true_eq]
    omega
  show wpAny _ A.in1 (asInt? (Value.int ((items.size : Nat) : Int) u) >>= _) _ _ _
  have hai : asInt? (Value.int ((items.size : Nat) : Int) u) = pure (some ((items.size : Nat) : Int)) := rfl
  rw [hai, pure_bind]
  try dsimp only
  have hng : ¬ (((items.size : Nat) : Int) < 0) := by omega
  rw [hf, if_neg (show ¬ ((!true) = true) from Bool.false_ne_true), if_neg hng, Int.toNat_natCast, notLongL hz, if_neg Bool.false_ne_true]
  refine wpAny_pure ?_
  have loop : ∀ (h' : Heap) (c' : Nat), (∀ b o, b ≠ S → s.heap.get? b = some o → h'.get? b = some o) → h'.get? S = some { cls := .type "list", data := .seq #[] c' } →
      codeAny (model prog w) A (.builtin "list.extend.loop" ⟨[.ref S, .ref I, res], []⟩) R { s with heap := h', toks := k } := by
    intro h' c' oth hS'
    refine codeAny_extend_loopS W hz _ hSf _ items.size 0 _ _ _ rfl (Nat.zero_le _) (W.frame 0 s h' k hst hk fun b hb o e => oth b o (fun z => hSf (z ▸ hb)) e) hS' (ItemsOf.nil _) fun s' acc' c'' hm hS'' hacc => ?_
    have m0 : Moved [S, I] (fun a b : Array GenState => b = a) s { s with heap := h', toks := k } := (Moved.refl (wr := [S, I]) (G := fun a b : Array GenState => b = a) fun _ => rfl).then_heap hk fun b o hb e => oth b o (fun z => hb (by rw [z]; exact List.mem_cons_self)) e
    exact hR s' acc' c'' (Moved.trans (fun _ _ _ h1 h2 => h2.trans h1) m0 hm) hS'' hacc
  by_cases h0 : items.size = 0
  · have hb : (((items.size : Nat) : Int) != 0) = false := by rw [h0]; rfl
    rw [hb]
    rw [if_neg (by decide +kernel)]
    exact wpAny_pure ⟨plainId_quiet F.plain_extend_loop _, loop s.heap c₀ (fun b o _ e => e) hS⟩
  · have hb : (((items.size : Nat) : Int) != 0) = true := by
      rw [bne_iff_ne]
      omega
    rw [hb, Bool.true_or, if_pos rfl]
    refine wpAny_bind (wpAny_rule ?_)
    refine wpAny_bind ?_
    show wpAny _ A.in1 (updateSeq S (·.push .none) >>= fun _ => updateSeq S (·.pop)) _ _ _
    refine wpAny_bind (wpAny_updateSeq (s := { s with toks := k }) (hz := Nat.zero_le _) (_hz' := Nat.le_add_left 1 _) hS rfl ?_)
    have hS₂ := Heap.get?_update_self (Obj.mapSeq (·.push Value.none)) hS rfl
    refine wpAny_updateSeq (hz := show 1 ≤ sizeLine by rw [sizeLine_eq]; decide) (_hz' := Nat.zero_le _) hS₂ rfl ?_
    have hS₃ := Heap.get?_update_self (Obj.mapSeq (·.pop)) hS₂ rfl
    exact wpAny_pure ⟨plainId_quiet F.plain_extend_loop _, loop _ _ (fun b o hb e => (Heap.get?_update_other _ _ (Ne.symm hb)).trans ((Heap.get?_update_other _ _ (Ne.symm hb)).trans e)) hS₃⟩
theorem list_init_rt (hh : A.handled = none) {I l : Addr} {items : Array Value} (hne : l ≠ I) (hz : items.size ≤ sizeLine) (hit : RT.IsRt s.heap I l ((items.size : Int) - 1)) (ht : IsTup s.heap l items) (S : Addr) (hSI : S ≠ I) (hSl : S ≠ l)
    (hS : s.heap.get? S = some { cls := .type "list", data := .seq #[] })
    (hR : ∀ s' acc' c', Moved [S, I] (fun a b => b = a) s s' → s'.heap.get? S = some { cls := .type "list", dict := none, data := .seq acc' c', slots := #[] } → ItemsOf (fun i v => items[items.size - 1 - i]? = some v) acc' items.size → R (.ok (.ret .none)) s') :
    wpAny (model prog w) A.in1 (Builtin.«list.__init__» ⟨[.ref S, .ref I], []⟩)
      (fun fin s' => match fin with | .done f => R (.ok f) s' | .again c' => c'.quiet = true ∧ codeAny (model prog w) A c' R s') (fun e s' => R (.error e) s') s := by
  show wpAny _ A.in1 (do let old ← Builtin.List.listItems (.ref S); Builtin.List.listUpdate (.ref S) (fun _ => #[]); letGo old.toList.reverse; Builtin.List.listExtendWith (.ref S) (.ref I) .none) _ _ s
  refine wpAny_bind ?_
  unfold Builtin.List.listItems
  refine wpAny_bind (wpAny_seqItems hS rfl (wpAny_pure ?_))
  show wpAny _ A.in1 (updateSeq S (fun _ => #[]) >>= fun _ => letGo (#[] : Array Value).toList.reverse >>= fun _ => Builtin.List.listExtendWith (.ref S) (.ref I) .none) _ _ s
  refine wpAny_bind (wpAny_updateSeq hS rfl ?_)
  have hS₂ := Heap.get?_update_self (Obj.mapSeq (fun _ => (#[] : Array Value))) hS rfl
  have oth : ∀ b o, b ≠ S → s.heap.get? b = some o → (s.heap.update S (Obj.mapSeq (fun _ => (#[] : Array Value)))).get? b = some o :=
    fun b o hb e => (Heap.get?_update_other _ _ (Ne.symm hb)).trans e
  refine wpAny_bind (wpAny_letGo ?_)
  refine extend_rt hh hne hz (s := { s with heap := s.heap.update S (Obj.mapSeq (fun _ => (#[] : Array Value))) }) (hit.at fun o e => oth I o (Ne.symm hSI) e) (let ⟨o, ho, r⟩ := ht; ⟨o, oth l o (Ne.symm hSl) ho, r⟩) S .none _ hSI hSl hS₂ fun s' acc' c' hm hS' hacc => ?_
  have m0 : Moved [S, I] (fun a b : Array GenState => b = a) s { s with heap := s.heap.update S (Obj.mapSeq (fun _ => (#[] : Array Value))) } := (Moved.refl (wr := [S, I]) (G := fun a b : Array GenState => b = a) fun _ => rfl).then_heap (Nat.le_refl _) fun b o hb e => oth b o (fun h => hb (by rw [h]; exact List.mem_cons_self)) e
  exact hR s' acc' c' (Moved.trans (fun _ _ _ h1 h2 => h2.trans h1) m0 hm) hS' hacc
end
section
variable {prog : Program} {w : World} {A : Around} {E : Value → Shared → Prop} {s : Shared}
theorem call_list_rt {Q : Value → Shared → Prop} (hh : A.handled = none) {I l : Addr} {items : Array Value} (hne : l ≠ I) (hz : items.size ≤ sizeLine) (hit : RT.IsRt s.heap I l ((items.size : Int) - 1)) (ht : IsTup s.heap l items)
    (hQ : ∀ (h' : Heap) (tk : Nat) (acc : Array Value) (c' : Nat), (∀ b o, b ≠ I → s.heap.get? b = some o → h'.get? b = some o) → ItemsOf (fun i v => items[items.size - 1 - i]? = some v) acc items.size → h'.get? s.heap.objs.size = some { cls := .type "list", dict := none, data := .seq acc c', slots := #[] } →
      Q (.ref s.heap.objs.size) { s with heap := h', toks := tk }) :
    wpAny (model prog w) A (call (.type "list") [.ref I]) Q E s := by
  obtain ⟨oi, hoi, _⟩ := id hit
  obtain ⟨ol, hol, _⟩ := id ht
  have hSI : s.heap.objs.size ≠ I := Nat.ne_of_gt (Heap.lt_size hoi)
  have hSl : s.heap.objs.size ≠ l := Nat.ne_of_gt (Heap.lt_size hol)
  refine callType_codes (Q₁ := fun obj s₁ => obj = .ref s.heap.objs.size ∧ s₁ = { s with heap := s.heap.push { cls := .type "list", data := .seq #[] } }) F.called_list (F.typeCall_list_1 _) F.entry_list_init
    (code_list_new _ ⟨rfl, rfl⟩) fun obj s₁ h₁ => ?_
  obtain ⟨rfl, rfl⟩ := h₁
  have hS : (s.heap.push { cls := .type "list", data := .seq #[] }).get? s.heap.objs.size = some { cls := .type "list", data := .seq #[] } := Heap.get?_push_size _ rfl
  refine ⟨⟨_, hS, rfl⟩, F.args_list_init_2 _ _, list_init_rt (A := A.in1) hh hne hz (s := { s with heap := s.heap.push { cls := .type "list", data := .seq #[] } }) (hit.at fun o e => Heap.get?_push_of_some _ e) (let ⟨o, ho, r⟩ := ht; ⟨o, Heap.get?_push_of_some _ ho, r⟩) _ hSI hSl hS fun s' acc' c' hm hS' hacc => ?_⟩
  refine ⟨rfl, ?_⟩
  rw [Moved.eq_with hm]
  refine hQ s'.heap s'.toks acc' c' (fun b o hb e => hm.heap b o (fun hmem => ?_) (Heap.get?_push_of_some _ e)) hacc hS'
  rcases List.mem_cons.mp hmem with e' | hmem
  · exact absurd (Heap.lt_size e) (by rw [e']; exact Nat.lt_irrefl _)
  · exact hb (List.mem_singleton.mp hmem)
end
section
variable {X : Cx}
/-- list(reversed(x)), x a tuple: a new list -/
def tLstRev (K : PySem.W.Frag) (te : TE) : TE := fun σ H Q => te σ H fun v H1 => ∃ (a : Addr) (xs : List V), v = .ref a ∧ SqT K H1 a xs ∧ ∀ q, H1 q = none → Q (.ref q) (upd H1 q (.lst xs.reverse))
theorem pe_lstRev (K : PySem.W.Frag) {e : Expr} {te : TE} {p p2 pos pos2 : Pos} (hc : X.calm = true) (hg : Gl X "list") (hm : X.mg "list" = none) (hg2 : Gl X "reversed") (hm2 : X.mg "reversed" = none) (he : PE X e te) (hK : X.K = K := by rfl)
    (hs : starEach [e] X.env = (false, eval e X.env) :: starEach [] X.env := by rfl)
    (hs2 : starEach [.Call (.Name "reversed" p2) [e] [] pos2] X.env = (false, eval (.Call (.Name "reversed" p2) [e] [] pos2) X.env) :: starEach [] X.env := by rfl) :
    PE X (.Call (.Name "list" p) [.Call (.Name "reversed" p2) [e] [] pos2] [] pos) (tLstRev K te) := by
  subst hK
  refine ⟨fun pins s σ H Q I h => ?_⟩
  refine Call_ (ld_blt I hg hm boot_list (PyProof.Rows.callWith_type1 (args_cons (Call_ (ld_blt I hg2 hm2 PyProof.Rows.boot_reversed (PyProof.Rows.callWith_type1 (args_cons (thn (he.run pins s σ H _ I h) fun u s1 ⟨v, H1, I1, r1, q1⟩ => args_nil ?_) hs) hs rfl))) hs2) hs2 rfl))
  obtain ⟨a, xs, ev, hq, q⟩ := q1
  subst ev
  obtain rfl : u = Value.ref a := r1
  obtain ⟨its, rv, p', hz⟩ := I1.tuple hq
  have hl := rv.length
  have hn := line63
  refine RT.call_reversed_tup p' (fun A E Q k => len_tuple p' (by simp only [List.size_toArray] <;> omega) k) (args_nil ?_)
  have k0 : ∀ b o, s1.heap.get? b = some o → (s1.heap.push (RT.rtObj a ((its.toArray.size : Int) - 1))).get? b = some o := fun b o e => Heap.get?_push_of_some _ e
  have I2 : Inv X pins σ H1 { s1 with heap := s1.heap.push (RT.rtObj a ((its.toArray.size : Int) - 1)), toks := s1.toks + 1 + 1 } := I1.kept (t' := s1.toks + 1 + 1) k0
  obtain ⟨f0, f1, f2, f3, f4, f5⟩ := I1.fpOk (H' := H1) (b := s1.heap.objs.size) (Nat.le_refl _) (I1.hok.fresh (Nat.le_refl _))
  obtain ⟨ol, hol, _⟩ := id p'
  have hne : a ≠ s1.heap.objs.size := Nat.ne_of_lt (Heap.lt_size hol)
  have hn : its.toArray.size ≤ sizeLine := by rw [List.size_toArray, ← rv.length]; exact hz
  refine call_list_rt (s := { s1 with heap := s1.heap.push (RT.rtObj a ((its.toArray.size : Int) - 1)), toks := s1.toks + 1 + 1 }) (I1.ok.hd hc) hne hn ⟨_, Heap.get?_push_size _ rfl, rfl, rfl⟩ (let ⟨o, ho, r⟩ := p'; ⟨o, Heap.get?_push_of_some _ ho, r⟩) fun h' tk acc c' hk hi hS => ?_
  have hS0 : (s1.heap.push (RT.rtObj a ((its.toArray.size : Int) - 1))).objs.size = s1.heap.objs.size + 1 := by simp [Heap.push]
  have I3 : Inv X pins σ (upd H1 (s1.heap.push (RT.rtObj a ((its.toArray.size : Int) - 1))).objs.size (.lst xs.reverse)) { s1 with heap := (s1.heap.push (RT.rtObj a ((its.toArray.size : Int) - 1))).push { cls := .type "list", dict := none, data := .seq acc c', slots := #[] }, toks := s1.toks + 1 + 1 } :=
    I2.laid (t' := s1.toks + 1 + 1) (fun b o e => Heap.get?_push_of_some _ e) (Nat.le_refl _) (show ObjOk X.prog X.w _ _ _ (.lst xs.reverse) from ⟨by rw [List.length_reverse]; exact hz, acc.toList, c', RT.vals_rev rv hi, by rw [Array.toArray_toList]; exact Heap.get?_push_size _ rfl⟩)
  have I4 : Inv X pins σ (upd H1 (s1.heap.push (RT.rtObj a ((its.toArray.size : Int) - 1))).objs.size (.lst xs.reverse)) { s1 with heap := h', toks := tk } := by
    refine Inv.turned (s := { s1 with heap := (s1.heap.push (RT.rtObj a ((its.toArray.size : Int) - 1))).push { cls := .type "list", dict := none, data := .seq acc c', slots := #[] }, toks := s1.toks + 1 + 1 }) (h' := h') (t' := tk) (it := s1.heap.objs.size) I3 (fun b o hb e => ?_) ?_ f1 f3 f4 f5
    · by_cases hbS : b = (s1.heap.push (RT.rtObj a ((its.toArray.size : Int) - 1))).objs.size
      · subst hbS
        have e2 := Heap.get?_push_size (h := s1.heap.push (RT.rtObj a ((its.toArray.size : Int) - 1))) (o := { cls := .type "list", dict := none, data := .seq acc c', slots := #[] }) rfl
        rw [e2] at e
        cases e
        exact hS
      · refine hk b o hb ?_
        rw [← Heap.get?_push_ne _ _ _ hbS]
        exact e
    · rw [upd_ne (by rw [hS0]; exact Nat.ne_of_lt (Nat.lt_succ_self _))]
      exact f0
  exact ⟨.ref _, _, I4, rfl, q _ (by
    have := I2.hok.fresh (a := (s1.heap.push (RT.rtObj a ((its.toArray.size : Int) - 1))).objs.size) (Nat.le_refl _)
    exact this)⟩
end
end Qx

/-! Lists of one's own that change. -/
namespace Dx
open PySem PySem.Spec PyProof.Rows L2 Evl Ex
section
variable {K : PySem.W.Frag}
/-! ### two lists of one's own that change -/
structure M2 (B0 H0 B H : Hp) (na wa : Addr) (xs ys : List V) : Prop where
  st : Step (fun _ => False) B0 H0 B H
  n0 : H0 na = none
  w0 : H0 wa = none
  ne : na ≠ wa
  bn : B na = none
  bw : B wa = none
  hn : H na = some (.lst xs)
  hw : H wa = some (.lst ys)
section
variable {B0 H0 B H B5 H5 : Hp} {na wa : Addr} {xs ys : List V}
theorem M2.ok (m : M2 B0 H0 B H na wa xs ys) : Ok Fm.pure B H := Ok.any m.st.bh
theorem M2.pass (m : M2 B0 H0 B H na wa xs ys) (s : Step (fun _ => False) B H B5 H5) : M2 B0 H0 B5 H5 na wa xs ys :=
  ⟨m.st.trans s, m.n0, m.w0, m.ne, s.sep na m.bn ⟨_, m.hn, trivial⟩, s.sep wa m.bw ⟨_, m.hw, trivial⟩, s.ex _ _ m.hn, s.ex _ _ m.hw⟩
theorem step_set {fa : Addr} {o : HO} (s : Step (fun _ => False) B0 H0 B H) (h0 : H0 fa = none) (hb : B fa = none) : Step (fun _ => False) B0 H0 B (upd H fa o) :=
  ⟨s.bb, fun a u h => by rw [upd_ne (ne_of_none h hb)]; exact s.bh _ _ h, fun a u n h => by rw [upd_ne (ne_of_none h h0)]; exact s.keep a u n h, s.sep, fun a n => by
    have ha : a ≠ fa := fun z => n (z ▸ h0)
    rw [upd_ne ha]
    exact s.live a n, fun a n => (s.liv a n).upd fun z => n.ne (z ▸ h0)⟩
theorem M2.setN (m : M2 B0 H0 B H na wa xs ys) (zs : List V) : M2 B0 H0 B (upd H na (.lst zs)) na wa zs ys := ⟨step_set m.st m.n0 m.bn, m.n0, m.w0, m.ne, m.bn, m.bw, upd_same, by rw [upd_ne (Ne.symm m.ne)]; exact m.hw⟩
theorem M2.setW (m : M2 B0 H0 B H na wa xs ys) (zs : List V) : M2 B0 H0 B (upd H wa (.lst zs)) na wa xs zs := ⟨step_set m.st m.w0 m.bw, m.n0, m.w0, m.ne, m.bn, m.bw, by rw [upd_ne m.ne]; exact m.hn, upd_same⟩
/-- na as data at the end -/
theorem ddAll_snoc {Hx : Hp} : ∀ {ds : List PyData} {vs : List V} {d : PyData}, DdAll K Hx vs (ds ++ [d]) → ∃ vs' v, vs = vs' ++ [v] ∧ DdAll K Hx vs' ds ∧ Dd K Hx v d
  | [], _, _, h => by
    obtain ⟨v, rfl, hv⟩ := arg1 h
    exact ⟨[], v, rfl, .nil, hv⟩
  | x :: ds, _, _, h => by
    cases h with
    | cons a t =>
      obtain ⟨vs', v, rfl, h1, h2⟩ := ddAll_snoc t
      exact ⟨_ :: vs', v, rfl, .cons a h1, h2⟩
theorem qm_asg {σ : L2.St} {te : TE} {P0 : PV} {i : Nat} {tz : TS} {D : Ends} (m : M2 B0 H0 B H na wa xs ys) (h : EV Fm.pure te σ B P0) (k : ∀ v B5 H5, M2 B0 H0 B5 H5 na wa xs ys → Ex B B5 → P0 v B5 → tz D (σ.set i (some v)) H5) : tSeq (tAsg te (gName i)) tz D σ H := h B (Ex.refl B) H m.ok _ fun v B5 H5 s5 _ p => k v B5 H5 (m.pass s5) s5.bb p
theorem qm_appN {σ : L2.St} {te : TE} {d : PyData} {i : Nat} {tz : TS} {D : Ends} (m : M2 B0 H0 B H na wa xs ys) (hi : σ[i]? = some (some (.ref na))) (h : ED Fm.pure K te σ B d) (hl : xs.length < 16777216) (k : ∀ v B5 H5, M2 B0 H0 B5 H5 na wa (xs ++ [v]) ys → Ex B B5 → Dd K B5 v d → tz D σ H5) : tSeq (tDrop (tBM K "list" rAppend (tVar i) (tCons te tNil))) tz D σ H :=
  ⟨.ref na, hi, .inl ⟨rfl, _, sq_of m.hn⟩, h B (Ex.refl B) H m.ok _ fun v B5 H5 s5 _ p => ⟨na, xs, v, rfl, rfl, (m.pass s5).hn, by rw [sizeLine_eq]; exact hl, k v B5 _ ((m.pass s5).setN _) s5.bb p⟩⟩
theorem sm_appW {σ : L2.St} {te : TE} {d : PyData} {i : Nat} {D : Ends} (m : M2 B0 H0 B H na wa xs ys) (hi : σ[i]? = some (some (.ref wa))) (h : ED Fm.pure K te σ B d) (hl : ys.length < 16777216) (k : ∀ v B5 H5, M2 B0 H0 B5 H5 na wa xs (ys ++ [v]) → Ex B B5 → Dd K B5 v d → D.nx σ H5) : tDrop (tBM K "list" rAppend (tVar i) (tCons te tNil)) D σ H :=
  ⟨.ref wa, hi, .inl ⟨rfl, _, sq_of m.hw⟩, h B (Ex.refl B) H m.ok _ fun v B5 H5 s5 _ p => ⟨wa, ys, v, rfl, rfl, (m.pass s5).hw, by rw [sizeLine_eq]; exact hl, k v B5 _ ((m.pass s5).setW _) s5.bb p⟩⟩
theorem M2.data (m : M2 B0 H0 B H na wa xs ys) {ds : List PyData} (hd : DdAll K B xs ds) (hl : ds.length ≤ 16777216) : Step (fun _ => False) B0 H0 (upd B na (.lst xs)) H ∧ Dd K (upd B na (.lst xs)) (.ref na) (.list ds) := by
  refine ⟨⟨m.st.bb.trans (Ex.new m.bn), fun a o h => ?_, m.st.keep, fun a h n => ?_, m.st.live, m.st.liv⟩, .lst upd_same (by rw [hd.len, sizeLine_eq]; exact hl) (hd.up (Ex.new m.bn))⟩
  · by_cases e : a = na
    · subst e
      rw [upd_same] at h
      rw [m.hn]
      exact h
    · rw [upd_ne e] at h
      exact m.st.bh a o h
  · have e : a ≠ na := fun z => n.ne (z ▸ m.n0)
    rw [upd_ne e]
    exact m.st.sep a h n
end
section
variable {B0 H0 B H B5 H5 : Hp} {na wa : Addr} {xs ys : List V}
structure S1 (B0 H0 B H : Hp) (na : Addr) (xs : List V) : Prop where
  st : Step (fun _ => False) B0 H0 B H
  n0 : H0 na = none
  bn : B na = none
  hn : H na = some (.lst xs)
section
variable {B0 H0 B H B5 H5 : Hp} {na wa : Addr} {xs ys : List V}
theorem S1.ok (m : S1 B0 H0 B H na xs) : Ok Fm.pure B H := Ok.any m.st.bh
theorem S1.pass (m : S1 B0 H0 B H na xs) (s : Step (fun _ => False) B H B5 H5) : S1 B0 H0 B5 H5 na xs := ⟨m.st.trans s, m.n0, s.sep na m.bn ⟨_, m.hn, trivial⟩, s.ex _ _ m.hn⟩
theorem S1.set (m : S1 B0 H0 B H na xs) (zs : List V) : S1 B0 H0 B (upd H na (.lst zs)) na zs := ⟨step_set m.st m.n0 m.bn, m.n0, m.bn, upd_same⟩
theorem S1.new (m : S1 B0 H0 B H na xs) (h : H wa = none) : M2 B0 H0 B (upd H wa (.lst [])) na wa xs [] := by
  have w0 : H0 wa = none := by
    cases hh : H0 wa with
    | none => rfl
    | some o => exact absurd h (m.st.live wa (by rw [hh]; exact fun z => nomatch z))
  have ne : na ≠ wa := fun z => by rw [← z, m.hn] at h; cases h
  exact ⟨step_set m.st w0 (fresh_back m.st.bh h), m.n0, w0, ne, m.bn, fresh_back m.st.bh h, by rw [upd_ne ne]; exact m.hn, upd_same⟩
theorem M2.shut (m : M2 B0 H0 B H na wa xs ys) {ds : List PyData} (hd : DdAll K B ys ds) (hl : ds.length ≤ 16777216) : S1 B0 H0 (upd B wa (.lst ys)) H na xs ∧ Dd K (upd B wa (.lst ys)) (.ref wa) (.list ds) ∧ Ex B (upd B wa (.lst ys)) := by
  have st : Step (fun _ => False) B0 H0 (upd B wa (.lst ys)) H := ⟨m.st.bb.trans (Ex.new m.bw), fun a o h => by
    by_cases e : a = wa
    · subst e
      rw [upd_same] at h
      rw [m.hw]
      exact h
    · rw [upd_ne e] at h
      exact m.st.bh a o h, m.st.keep, fun a h n => by
    have e : a ≠ wa := fun z => n.ne (z ▸ m.w0)
    rw [upd_ne e]
    exact m.st.sep a h n, m.st.live, m.st.liv⟩
  exact ⟨⟨st, m.n0, by rw [upd_ne m.ne]; exact m.bn, m.hn⟩, .lst upd_same (by rw [hd.len, sizeLine_eq]; exact hl) (hd.up (Ex.new m.bw)), Ex.new m.bw⟩
theorem S1.data (m : S1 B0 H0 B H na xs) {ds : List PyData} (hd : DdAll K B xs ds) (hl : ds.length ≤ 16777216) : Step (fun _ => False) B0 H0 (upd B na (.lst xs)) H ∧ Dd K (upd B na (.lst xs)) (.ref na) (.list ds) := by
  refine ⟨⟨m.st.bb.trans (Ex.new m.bn), fun a o h => ?_, m.st.keep, fun a h n => ?_, m.st.live, m.st.liv⟩, .lst upd_same (by rw [hd.len, sizeLine_eq]; exact hl) (hd.up (Ex.new m.bn))⟩
  · by_cases e : a = na
    · subst e
      rw [upd_same] at h
      rw [m.hn]
      exact h
    · rw [upd_ne e] at h
      exact m.st.bh a o h
  · have e : a ≠ na := fun z => n.ne (z ▸ m.n0)
    rw [upd_ne e]
    exact m.st.sep a h n
theorem qs_asg {σ : L2.St} {te : TE} {P0 : PV} {i : Nat} {tz : TS} {D : Ends} (m : S1 B0 H0 B H na xs) (h : EV Fm.pure te σ B P0) (k : ∀ v B5 H5, S1 B0 H0 B5 H5 na xs → Ex B B5 → P0 v B5 → tz D (σ.set i (some v)) H5) : tSeq (tAsg te (gName i)) tz D σ H := h B (Ex.refl B) H m.ok _ fun v B5 H5 s5 _ p => k v B5 H5 (m.pass s5) s5.bb p
theorem ss_app {σ : L2.St} {te : TE} {d : PyData} {i : Nat} {D : Ends} (m : S1 B0 H0 B H na xs) (hi : σ[i]? = some (some (.ref na))) (h : ED Fm.pure K te σ B d) (hl : xs.length < 16777216) (k : ∀ v B5 H5, S1 B0 H0 B5 H5 na (xs ++ [v]) → Ex B B5 → Dd K B5 v d → D.nx σ H5) : tDrop (tBM K "list" rAppend (tVar i) (tCons te tNil)) D σ H :=
  ⟨.ref na, hi, .inl ⟨rfl, _, sq_of m.hn⟩, h B (Ex.refl B) H m.ok _ fun v B5 H5 s5 _ p => ⟨na, xs, v, rfl, rfl, (m.pass s5).hn, by rw [sizeLine_eq]; exact hl, k v B5 _ ((m.pass s5).set _) s5.bb p⟩⟩
end

theorem ddAll_strs {H : Hp} : ∀ {S : List Str}, (∀ s ∈ S, s.length ≤ 100) → DdAll K H (S.map V.str) (S.map .str)
  | [], _ => .nil
  | s :: S, h => .cons (.str s (by rw [sizeLine_eq]; have := h s List.mem_cons_self; omega)) (ddAll_strs fun x hx => h x (List.mem_cons_of_mem _ hx))
theorem strs_dd {H : Hp} : ∀ {S : List Str} {vs : List V}, DdAll K H vs (S.map .str) → vs = S.map V.str
  | [], _, h => by cases h; rfl
  | s :: S, _, h => by
    cases h with
    | cons a t =>
      rw [(dd_str a).1, strs_dd t]
      rfl
section
variable {B0 H0 B H B5 H5 : Hp} {na wa : Addr} {xs ys : List V} {σ : L2.St} {te : TE} {tas : TA} {ds : List PyData} {d : PyData} {i : Nat} {tz : TS} {D : Ends}
/-- x = [] -/
theorem qs_new (k0 : Ok Fm.pure B H) (k : ∀ na, S1 B H B (upd H na (.lst [])) na [] → tz D (σ.set i (some (.ref na))) (upd H na (.lst []))) : tSeq (tAsg (tLst tNil) (gName i)) tz D σ H :=
  ⟨Nat.zero_le _, fun na hna => k na ⟨step_set (Step.refl k0.e) hna (fresh_back k0.e hna), hna, fresh_back k0.e hna, upd_same⟩⟩
theorem S1.newL (m : S1 B0 H0 B H na xs) (zs : List V) (h : H wa = none) : M2 B0 H0 B (upd H wa (.lst zs)) na wa xs zs := by
  have w0 : H0 wa = none := by
    cases hh : H0 wa with
    | none => rfl
    | some o => exact absurd h (m.st.live wa (by rw [hh]; exact fun z => nomatch z))
  have ne : na ≠ wa := fun z => by rw [← z, m.hn] at h; cases h
  exact ⟨step_set m.st w0 (fresh_back m.st.bh h), m.n0, w0, ne, m.bn, fresh_back m.st.bh h, by rw [upd_ne ne]; exact m.hn, upd_same⟩
/-- x = [..] -/
theorem qs_lst (m : S1 B0 H0 B H na xs) (h : EDs Fm.pure K tas σ B ds) (hl : ds.length ≤ 16777216) (k : ∀ wa vs B5 H5, M2 B0 H0 B5 H5 na wa xs vs → DdAll K B5 vs ds → Ex B B5 → tz D (σ.set i (some (.ref wa))) H5) : tSeq (tAsg (tLst tas) (gName i)) tz D σ H :=
  h B (Ex.refl B) H m.ok _ fun vs B5 H5 s5 _ p => ⟨by rw [DdAll.len p, sizeLine_eq]; exact hl, fun wa hwa => k wa vs B5 _ ((m.pass s5).newL vs hwa) p s5.bb⟩
/-- x = waiting.pop() -/
theorem qm_pop {y : V} (m : M2 B0 H0 B H na wa xs (ys ++ [y])) {j : Nat} (hi : σ[j]? = some (some (.ref wa))) (k : M2 B0 H0 B (upd H wa (.lst ys)) na wa xs ys → tz D (σ.set i (some y)) (upd H wa (.lst ys))) : tSeq (tAsg (tBM0 K "list" rPop (tVar j)) (gName i)) tz D σ H := by
  refine ⟨.ref wa, hi, .inl ⟨rfl, _, sq_of m.hw⟩, wa, _, y, rfl, rfl, m.hw, by rw [List.length_append]; simp, ?_⟩
  rw [List.dropLast_concat]
  exact k (m.setW ys)
/-- waiting.extend(a tuple) -/
theorem sm_extT (m : M2 B0 H0 B H na wa xs ys) (hi : σ[i]? = some (some (.ref wa))) (h : ED Fm.pure K te σ B (.tuple ds)) (hl : ys.length + ds.length ≤ 16777216) (k : ∀ vs B5 H5, M2 B0 H0 B5 H5 na wa xs (ys ++ vs) → Ex B B5 → DdAll K B5 vs ds → D.nx σ H5) : tDrop (tBM K "list" (Qx.rExtendT K) (tVar i) (tCons te tNil)) D σ H :=
  ⟨.ref wa, hi, .inl ⟨rfl, _, sq_of m.hw⟩, h B (Ex.refl B) H m.ok _ fun v B5 H5 s5 _ p => by
    obtain ⟨b, zs, rfl, h1, _, g⟩ := dd_tup p
    have m5 := m.pass s5
    exact ⟨wa, b, ys, zs, rfl, rfl, m5.hw, ex_t m5.st.bh h1, by rw [g.len, sizeLine_eq]; exact hl, k zs B5 _ (m5.setW _) s5.bb g⟩⟩
/-- waiting.extend(a list) -/
theorem sm_extL (m : M2 B0 H0 B H na wa xs ys) (hi : σ[i]? = some (some (.ref wa))) (h : ED Fm.pure K te σ B (.list ds)) (hl : ys.length + ds.length ≤ 16777216) (k : ∀ vs B5 H5, M2 B0 H0 B5 H5 na wa xs (ys ++ vs) → Ex B B5 → DdAll K B5 vs ds → D.nx σ H5) : tDrop (tBM K "list" rExtend (tVar i) (tCons te tNil)) D σ H :=
  ⟨.ref wa, hi, .inl ⟨rfl, _, sq_of m.hw⟩, h B (Ex.refl B) H m.ok _ fun v B5 H5 s5 _ p => by
    obtain ⟨b, zs, rfl, h1, _, g⟩ := dd_lst p
    have m5 := m.pass s5
    exact ⟨wa, b, ys, zs, rfl, rfl, m5.hw, m5.st.bh _ _ h1, by rw [g.len, sizeLine_eq]; exact hl, k zs B5 _ (m5.setW _) s5.bb g⟩⟩
end
section
variable {F : Fm} {B : Hp} {σ : L2.St} {te : TE} {ds : List PyData} {S : List Str} {k : Str}
theorem ed_lstRev (h : ED F K te σ B (.tuple ds)) : ED F K (Qx.tLstRev K te) σ B (.list ds.reverse) := fun B1 e0 H j Q q => h B1 e0 H j _ fun v B2 H2 s2 j2 g => by
  obtain ⟨a, xs, rfl, h1, l1, g1⟩ := dd_tup g
  refine ⟨a, xs, rfl, ex_t j2.e h1, fun p hp => q _ _ _ (s2.trans (Step.alloc j2.e hp)) (j2.alloc hp) (.lst upd_same (by rw [List.length_reverse]; exact l1) (g1.rev.up (Ex.new (fresh_back j2.e hp))))⟩
theorem ed_cntS (h : ED F K te σ B (.list (S.map .str))) : ED F K (tBM K "list" (Qx.rCntS K) te (tCons (tC (.str k)) tNil)) σ B (.int (S.count k : Nat)) := fun B1 e0 H j Q q => h B1 e0 H j _ fun v B2 H2 s2 j2 g => by
  obtain ⟨a, xs, rfl, h1, l1, g1⟩ := dd_lst g
  obtain rfl := strs_dd g1
  have h2 := j2.e _ _ h1
  exact ⟨.inl ⟨rfl, _, sq_of h2⟩, a, S, k, rfl, rfl, sq_of h2, q _ B2 H2 s2 j2 (.int _)⟩
theorem rc_lstT' {F : Fm} {B : Hp} {ds : List PyData} : RDc F K (fun xs H Q => ∃ p ys, xs = [.ref p] ∧ (SqL K H p ys ∨ SqT K H p ys) ∧ ∀ l, H l = none → Q (.ref l) (upd H l (.lst ys))) B [.tuple ds] (.list ds) := fun B1 e0 H us jj hu Q q => by
  obtain ⟨v, rfl, hv⟩ := arg1 hu
  obtain ⟨a, xs, rfl, h1, l1, g1⟩ := dd_tup hv
  exact ⟨a, xs, rfl, .inr (ex_t jj.e h1), fun l hl => q _ _ _ (Step.alloc jj.e hl) (jj.alloc hl) (.lst upd_same l1 (g1.up (Ex.new (fresh_back jj.e hl))))⟩
end
end
section
variable {B0 H0 B H B5 H5 : Hp} {na : Addr} {xs : List V} {σ : L2.St} {te tl : TE} {t : TT} {tu tw tz tb : TS} {b : Bool} {P : PV} {i j : Nat} {D : Ends} {ds : List PyData}
theorem ss_if (m : S1 B0 H0 B H na xs) (h : ETt Fm.pure t σ B b) (h1 : b = true → ∀ B5 H5, S1 B0 H0 B5 H5 na xs → Ex B B5 → tu D σ H5) (h2 : b = false → ∀ B5 H5, S1 B0 H0 B5 H5 na xs → Ex B B5 → tw D σ H5) : tIfS t tu tw D σ H := h B (Ex.refl B) H m.ok _ fun B5 H5 s5 _ => by
  cases b with
  | true =>
    show tu D σ H5
    exact h1 rfl B5 H5 (m.pass s5) s5.bb
  | false =>
    show tw D σ H5
    exact h2 rfl B5 H5 (m.pass s5) s5.bb
theorem qs_when (m : S1 B0 H0 B H na xs) (h : ETt Fm.pure t σ B b) (h1 : b = true → ∀ B5 H5, S1 B0 H0 B5 H5 na xs → Ex B B5 → tu { D with nx := tz D } σ H5) (h2 : b = false → ∀ B5 H5, S1 B0 H0 B5 H5 na xs → Ex B B5 → tz D σ H5) : tSeq (tIfS t tu tNext) tz D σ H := ss_if (D := { D with nx := tz D }) m h h1 h2
theorem ss_ret (m : S1 B0 H0 B H na xs) (h : EV Fm.pure te σ B P) (k : ∀ v B5 H5, S1 B0 H0 B5 H5 na xs → Ex B B5 → P v B5 → D.rt v H5) : tRet te D σ H := h B (Ex.refl B) H m.ok _ fun v B5 H5 s5 _ p => k v B5 H5 (m.pass s5) s5.bb p
theorem qs_pop {y : V} {ys : List V} (m : S1 B0 H0 B H na (ys ++ [y])) (hi : σ[j]? = some (some (.ref na))) (k : S1 B0 H0 B (upd H na (.lst ys)) na ys → tz D (σ.set i (some y)) (upd H na (.lst ys))) : tSeq (tAsg (tBM0 K "list" rPop (tVar j)) (gName i)) tz D σ H := by
  refine ⟨.ref na, hi, .inl ⟨rfl, _, sq_of m.hn⟩, na, _, y, rfl, rfl, m.hn, by rw [List.length_append]; simp, ?_⟩
  rw [List.dropLast_concat]
  exact k (m.set ys)
/-- x = x + a list: another list -/
theorem ss_add (m : S1 B0 H0 B H na xs) (hi : σ[i]? = some (some (.ref na))) (h : ED Fm.pure K te σ B (.list ds)) (hl : xs.length + ds.length ≤ 16777216) (k : ∀ na' us B5 H5, S1 B0 H0 B5 H5 na' (xs ++ us) → Ex B B5 → DdAll K B5 us ds → D.nx (σ.set i (some (.ref na'))) H5) : tAsg (tOp (rAddA K) (tVar i) te) (gName i) D σ H := by
  refine ⟨.ref na, hi, h B (Ex.refl B) H m.ok _ fun v B5 H5 s5 j5 g => ?_⟩
  obtain ⟨b, us, rfl, h1, _, g1⟩ := dd_lst g
  have m5 := m.pass s5
  refine .inr (.inr (.inl ⟨na, b, xs, us, rfl, rfl, m5.hn, m5.st.bh _ _ h1, by rw [g1.len, sizeLine_eq]; exact hl, fun p hp => ?_⟩))
  have p0 : H0 p = none := by
    cases hh : H0 p with
    | none => rfl
    | some o => exact absurd hp (m5.st.live p (by rw [hh]; exact fun z => nomatch z))
  exact k p us B5 _ ⟨step_set m5.st p0 (fresh_back m5.st.bh hp), p0, fresh_back m5.st.bh hp, upd_same⟩ s5.bb g1
/-- for x, y in pairs -/
theorem q_forP (ok : Ok Fm.pure B H) (h : EV Fm.pure tl σ B (SqV K (DDs K ds))) (hp : ∀ d ∈ ds, ∃ x y, d = .tuple [x, y]) (J : Nat → L2.St → Hp → Hp → Prop) (hj : ∀ i σ B H, J i σ B H → Ex B H) (h0 : ∀ B1 H1, Step (fun _ => False) B H B1 H1 → J 0 σ B1 H1)
    (hs : ∀ Bb n x y u v σ' B1 H1, ds[n]? = some (.tuple [x, y]) → Ex B Bb → Ex Bb B1 → Dd K B1 u x → Dd K B1 v y → J n σ' B1 H1 → tb { D with nx := fun σ2 H2 => ∃ B2, Ex Bb B2 ∧ J (n + 1) σ2 B2 H2, ct := fun σ2 H2 => ∃ B2, Ex Bb B2 ∧ J (n + 1) σ2 B2 H2, bk := tz D } ((σ'.set i (some u)).set j (some v)) H1)
    (hd : ∀ σ' B1 H1, Ex B B1 → J ds.length σ' B1 H1 → tz D σ' H1) : tSeq (tFor (iSeq K tl) (g2 K i j) tb) tz D σ H := by
  refine h B (Ex.refl B) H ok _ fun v B1 H1 s1 j1 pv => ?_
  obtain ⟨l, vs, rfl, hl, ps⟩ := pv
  have ps' : DdAll K B1 vs ds := ps
  have turn : ∀ n x σ' H', vs[n]? = some x → (∃ B2, Ex B1 B2 ∧ J n σ' B2 H') → g2 K i j x σ' H' fun σ2 H2 => tb { D with nx := fun σ2 H2 => ∃ B2, Ex B1 B2 ∧ J (n + 1) σ2 B2 H2, ct := fun σ2 H2 => ∃ B2, Ex B1 B2 ∧ J (n + 1) σ2 B2 H2, bk := tz D } σ2 H2 := by
    rintro n x σ' H' hx ⟨B2, e2, q⟩
    obtain ⟨d, hd, hdv⟩ := ps'.getv hx
    obtain ⟨a, c, rfl⟩ := hp d (List.mem_of_getElem? hd)
    obtain ⟨t, us, rfl, h1, _, hus⟩ := dd_tup hdv
    obtain ⟨u, w, rfl, hu, hw⟩ := arg2 hus
    refine ⟨t, _, rfl, ex_t (e2.trans (hj _ _ _ _ q)) h1, rfl, u, _, rfl, w, _, rfl, rfl, ?_⟩
    exact hs B1 n a c u w σ' B2 H' hd s1.bb e2 (hu.up e2) (hw.up e2) q
  have fin : ∀ σ' H', (∃ B2, Ex B1 B2 ∧ J vs.length σ' B2 H') → tz D σ' H' := fun σ' H' ⟨B2, e2, q⟩ => hd σ' B2 H' (s1.bb.trans e2) (by rw [← ps'.len]; exact q)
  refine ⟨l, rfl, ?_⟩
  rcases hl with hl | hl
  · refine .inl ⟨⟨vs, ex_l j1.e hl⟩, for_list (K := K) (xs := vs) (fun n σ' H' => ∃ B2, Ex B1 B2 ∧ J n σ' B2 H') ⟨B1, Ex.refl B1, h0 B1 H1 s1⟩ (fun n σ' H' _ ⟨B2, e, q⟩ => ex_l (hj _ _ _ _ q) (ex_l e hl)) turn fin⟩
  · refine .inr ⟨⟨vs, ex_t j1.e hl⟩, for_tup (K := K) (xs := vs) (fun n σ' H' => ∃ B2, Ex B1 B2 ∧ J n σ' B2 H') ⟨B1, Ex.refl B1, h0 B1 H1 s1⟩ (fun n σ' H' _ ⟨B2, e, q⟩ => ex_t (hj _ _ _ _ q) (ex_t e hl)) turn fin⟩
end
end
end Dx

/-! sorted of tuples of ints, any number of them -/
namespace Vx
open PySem PySem.Spec PyProof.Rows
section
variable {prog : Program} {w : World} {A : Around} {s : Shared}
theorem lex_kat {Q : Bool → Shared → Prop} : ∀ {xs ys : List Value} {ns ms : List Int}, IntsAre xs ns → IntsAre ys ms → ns.length = ms.length → ∀ i : Nat, Q (HT.lexLt ns ms) s → PySem.W.KatLex prog w A true false Q (xs.zip ys) i s
  | _, _, _, _, .nil, .nil, _, i, h => PySem.W.kat_nil h
  | _, _, _, _, .nil, .cons _ _ _, hl, i, h => by cases hl
  | _, _, _, _, .cons _ _ _, .nil, hl, i, h => by cases hl
  | _, _, _, _, .cons n t r, .cons m u r', hl, i, h => by
    rw [HT.lexLt_cons] at h
    show PySem.W.KatLex prog w A true false Q ((Value.int n t, Value.int m u) :: _) i s
    refine PySem.W.kat_cons (SeqAt.EqAt.int_int n t m u prog w _ _ ?_)
    refine PySem.W.kat_go (fun e1 => ?_) (fun e1 => ?_)
    · have ex : n = m := by simpa using e1
      rw [if_pos ex] at h
      exact PySem.W.kat_yes (lex_kat r r' (by simpa using hl) (i + 1) h)
    · have ex : ¬ n = m := by simpa using e1
      rw [if_neg ex] at h
      cases i with
      | zero => exact PySem.W.kat_no (PyProof.Rows.oneLt_int h)
      | succ i => exact PySem.W.kat_no (PySem.W.kat_one _ _ (PyProof.Rows.lt_int h))
def TupsN (h : Heap) (d : Nat) (k : Value → List Int) (vs : List Value) : Prop := ∀ v ∈ vs, TS.TupInts h v (k v) ∧ (k v).length = d
theorem firsts {h : Heap} {d : Nat} {k : Value → List Int} (hd : 1 ≤ d) : ∀ {vs : List Value}, TupsN h d k vs → ∃ fs : List Value, PySem.W.KatTups h vs fs ∧ fs.length = vs.length ∧ ∀ f ∈ fs, ∃ n t, f = Value.int n t
  | [], _ => ⟨[], PySem.W.KatTups.nil, rfl, fun f hf => by simp at hf⟩
  | v :: vs, x => by
    obtain ⟨fs, h1, h2, h3⟩ := firsts hd (vs := vs) fun u hu => x u (List.mem_cons_of_mem _ hu)
    obtain ⟨⟨a, xs, e, ⟨o, ho, hc, n, hdt⟩, i⟩, hn⟩ := x v (List.mem_cons_self ..)
    obtain ⟨y, ys, ey⟩ : ∃ y ys, xs.toList = y :: ys := by
      cases q : xs.toList with
      | nil =>
        rw [q] at i
        have l := i.length
        rw [List.length_nil, hn] at l
        omega
      | cons y ys => exact ⟨y, ys, rfl⟩
    obtain ⟨m, t, hy⟩ := i.all y (by rw [ey]; exact List.mem_cons_self ..)
    subst e
    refine ⟨y :: fs, PySem.W.KatTups.cons ho hc hdt ?_ h1, by rw [List.length_cons, List.length_cons, h2], fun f hf => ?_⟩
    · rw [← Array.getElem?_toList, ey]
      rfl
    · rcases List.mem_cons.mp hf with rfl | hf
      · exact ⟨m, t, hy⟩
      · exact h3 f hf
theorem tups_cmp {vs : List Value} {d : Nat} {k : Value → List Int} (hp : TupsN s.heap d k vs) : SrtO.Cmp prog w A s (tuples' true) (fun p => p.1 ∈ vs) (SrtO.lt2 fun v u => HT.lexLt (k v) (k u)) := by
  intro p q hm hm'
  obtain ⟨⟨a, xs, e, ⟨o, ho, hc, n, hdt⟩, i⟩, hn⟩ := hp _ hm
  obtain ⟨⟨a', xs', e', ⟨o', ho', hc', n', hdt'⟩, i'⟩, hn'⟩ := hp _ hm'
  show wpAny (model prog w) A (keyLt' (tuples' true) p.1 q.1) (fun r s' => s' = s ∧ r = HT.lexLt (k p.1) (k q.1)) (fun _ _ => False) s
  have l1 := i.length
  have l2 := i'.length
  generalize k p.1 = ns at i hn l1 ⊢
  generalize k q.1 = ms at i' hn' l2 ⊢
  rw [e, e']
  refine PySem.W.kat_lt ho hdt ho' hdt' ?_
  have hz : decide (xs.size < xs'.size) = false := decide_eq_false (by rw [← Array.length_toList, ← Array.length_toList]; omega)
  rw [hz]
  exact lex_kat i i' (by rw [hn, hn']) 0 ⟨rfl, rfl⟩
theorem swo_lex (k : Value → List Int) : SrtO.Swo fun v u => HT.lexLt (k v) (k u) := NtL.swo_lexL k
theorem tups_sortable {a : Addr} {vs : List Value} {d : Nat} {k : Value → List Int} (hd : 1 ≤ d) (h0 : 0 < vs.length) (hp : TupsN s.heap d k vs) (ha : ∀ o, s.heap.get? a = some o → o.cls ≠ .type "tuple") : SrtO.SortableO prog w A s a vs fun v u => HT.lexLt (k v) (k u) := by
  intro h' keep
  have hp' : TupsN h' d k vs := fun v hm => ⟨(hp v hm).1.keeps fun b o e c => keep b o (fun z => by subst z; exact ha o e c) e, (hp v hm).2⟩
  obtain ⟨fs, h1, h2, h3⟩ := firsts hd hp'
  refine ⟨tuples' true, fun Q E hq => ?_, tups_cmp hp'⟩
  refine PySem.W.kat_kind (T := .type "int") h1 (by omega) (fun f hm => ?_) (by rfl) ?_
  · obtain ⟨x, t, rfl⟩ := h3 f hm
    exact PySem.W.Looks.now
  · have e : (Value.type "int" != Value.type "tuple") = true := by first | decide +kernel | rfl | decide
    rw [e]
    exact hq
end
end Vx
namespace L2
open PySem PySem.Spec PyProof.Rows
/-- sorted(xs), xs a list of tuples of d ints each, any number of them -/
def rSortTI (K : PySem.W.Frag) (d : Nat) : List V → Hp → VK → Prop := fun vs H Q => ∃ (a : Addr) (xs : List V) (k : V → List Int), vs = [V.ref a] ∧ SqL K H a xs ∧ (∀ x ∈ xs, TupI K H x (k x) ∧ (k x).length = d) ∧
  ∀ (ys : List V) (p : Addr), ys.Perm xs → ys.Pairwise (fun x y => HT.lexLt (k y) (k x) = false) → H p = none → Q (.ref p) (upd H p (.lst ys))
section
variable {X : Cx}
theorem cr_sortTI {d : Nat} (K : PySem.W.Frag) (hd : 1 ≤ d) (hK : X.K = K := by rfl) : CallR X (.builtin "sorted") (rSortTI K d) := by
  subst hK
  intro pins s σ H vs us Q I r h
  obtain ⟨a, xs, k, rfl, hs, hx, q⟩ := h
  obtain ⟨its, rv, hl, hz⟩ := I.list hs
  rw [Vals.ref1 r]
  obtain ⟨e1, e2⟩ := bkV_refs rv fun x m => by
    obtain ⟨⟨t, e, _⟩, _⟩ := hx x m
    exact ⟨t, e⟩
  have tn : Vx.TupsN s.heap d (fun u => k (bkV u)) its := fun v hv => by
    obtain ⟨t, rfl⟩ := e2 v hv
    have hm : V.ref t ∈ xs := by
      rw [e1]
      exact List.mem_map.mpr ⟨_, hv, rfl⟩
    obtain ⟨⟨t', e, ht⟩, hn⟩ := hx _ hm
    cases e
    exact ⟨tupI_raw I ht, hn⟩
  refine SrtO.sorted_ord (Vx.swo_lex fun u => k (bkV u)) hl.isList (by rw [← rv.length]; exact hz) (fun h2 h₁ a' ho keep => Vx.tups_sortable (s := { s with heap := h₁ }) hd (by omega) (fun v hv => ⟨(tn v hv).1.keeps fun b o e c => (keep b o e).2, (tn v hv).2⟩) fun o e c => ?_) fun out h1 h2 => ?_
  · have e' : some o = some (seqObj "list" its.toArray 0) := e.symm.trans ho
    cases e'
    exact absurd (Value.type.inj c) (by decide)
  · obtain ⟨ep, he'⟩ := PyProof.Rows.sortedAll_at s.heap its out.toArray
    have h3 : ∀ u ∈ out, ∃ a, u = Value.ref a := fun u hu => e2 u (h2.perm.mem_iff.mp hu)
    have hp : (out.map bkV).Perm xs := by
      rw [e1]
      exact h2.perm.map bkV
    have hlen : (out.map bkV).length ≤ sizeLine := by
      rw [hp.length_eq]
      exact hz
    refine ⟨.ref _, upd H (s.heap.objs.size + 1) (.lst (out.map bkV)), I.laid (t' := s.toks) (fun _ _ => PyProof.Rows.sortedAll_old) (Nat.le_succ _) ⟨hlen, out, ep, bkV_vals h3, he'⟩, rfl, q _ _ hp ?_ (I.hok.fresh (Nat.le_succ _))⟩
    rw [List.pairwise_map]
    exact h1.imp fun {u v} huv => huv
/-- sorted(d), d a dict whose keys are tuples of n ints each, any number of them -/
def rSortDT (n : Nat) : List V → Hp → VK → Prop := fun vs H Q => ∃ (a : Addr) (kvs : List (List Key × V)) (ks : List (List Int)), vs = [V.ref a] ∧ H a = some (.dT kvs) ∧ kvs.map (·.1) = ks.map (fun k => k.map Sum.inl) ∧ (∀ k ∈ ks, k.length = n) ∧
  ∀ (ys : List V) (zs : List (List Int)) (p : Addr), zs.Perm ks → zs.Pairwise (fun x y => HT.lexLt y x = false) → Paired (fun y z => ∃ t, y = V.ref t ∧ H t = some (.tup (z.map V.int))) ys zs → H p = none → Q (.ref p) (upd H p (.lst ys))
theorem kV_inl : ∀ k : List Int, (k.map (Sum.inl : Int → Key)).map kV = k.map V.int
  | [] => rfl
  | n :: k => by
    show V.int n :: _ = V.int n :: _
    rw [← kV_inl k]
theorem isKeys_ints {H : Hp} : ∀ {kvs : List (List Key × V)} {bs : List Addr} {ks : List (List Int)}, IsKeys H kvs bs → kvs.map (·.1) = ks.map (fun k => k.map Sum.inl) → Paired (fun b k => H b = some (.tup (k.map V.int))) bs ks
  | _, _, [], .nil, _ => .nil
  | _, _, k :: ks, .nil, e => by cases e
  | _, _, [], .cons _ _, e => by cases e
  | (k', v) :: kvs, b :: bs, k :: ks, .cons h t, e => by
    have e1 : k' = k.map Sum.inl := (List.cons.inj e).1
    have e2 := (List.cons.inj e).2
    refine .cons ?_ (isKeys_ints t e2)
    have h' : H b = some (.tup (k'.map kV)) := h
    rw [e1, kV_inl] at h'
    exact h'
theorem prd_mem {α β : Type} {F : α → β → Prop} : ∀ {l : List α} {m : List β}, Paired F l m → ∀ x ∈ l, ∃ y ∈ m, F x y
  | _, _, .nil, x, h => nomatch h
  | _, _, .cons h t, x, hx => by
    rcases List.mem_cons.mp hx with rfl | hx
    · exact ⟨_, List.mem_cons_self, h⟩
    · obtain ⟨y, hy, hF⟩ := prd_mem t x hx
      exact ⟨y, List.mem_cons_of_mem _ hy, hF⟩
/-- the ints of the tuple at b -/
def tupOf (H : Hp) (b : Addr) : List Int := match H b with
  | some (.tup xs) => xs.filterMap fun v => match v with | .int i => some i | _ => none
  | _ => []
theorem tupOf_is {H : Hp} {b : Addr} {k : List Int} (h : H b = some (.tup (k.map V.int))) : tupOf H b = k := by
  unfold tupOf
  rw [h]
  show (k.map V.int).filterMap _ = k
  rw [List.filterMap_map]
  exact List.filterMap_some
theorem prd_keys {H : Hp} : ∀ {bs : List Addr} {ks : List (List Int)}, Paired (fun b k => H b = some (.tup (k.map V.int))) bs ks → bs.map (tupOf H) = ks
  | _, _, .nil => rfl
  | _, _, .cons h t => by rw [List.map_cons, tupOf_is h, prd_keys t]
theorem keys_prd {H : Hp} : ∀ {cs : List Addr}, (∀ b ∈ cs, H b = some (.tup ((tupOf H b).map V.int))) → Paired (fun y z => ∃ t, y = V.ref t ∧ H t = some (.tup (z.map V.int))) (cs.map V.ref) (cs.map (tupOf H))
  | [], _ => .nil
  | c :: cs, h => .cons ⟨c, rfl, h c List.mem_cons_self⟩ (keys_prd fun b hb => h b (List.mem_cons_of_mem _ hb))
theorem cr_sortDT {n : Nat} (hn1 : 1 ≤ n) (hc : X.calm = true) : CallR X (.builtin "sorted") (rSortDT n) := by
  intro pins s σ H xs us Q I r h
  obtain ⟨d, kvs, ks, rfl, hd, hks, hlen, q⟩ := h
  obtain ⟨u, rfl, rx⟩ := r.one
  cases rx
  obtain ⟨z, hs, kx, pr, o, es, ep, ho, hx, hdt, he, hn⟩ := (show ObjOk X.prog X.w H s.heap d (.dT kvs) from I.hok d _ hd)
  have l1 : es.size = kx.length := size_of_entries he
  have l2 : kvs.length = kx.length := Paired.length pr
  refine Calls.call_function_entry PyProof.Rows.kind_sorted PyProof.Rows.plain_sorted PyProof.Rows.entry_sorted (PyProof.Rows.args_sorted1 _) ?_
  unfold Builtin.«sorted»
  refine wpAny_bind (m := checkCount "sorted" 1 1 _) (wpAny_pure ?_)
  refine wpAny_bind (PySem.W.kdu_collect (A := X.A.in1) (kdl_raw hs hx hdt) (I.ok.hd hc) ho (by omega) fun h' tk acc kp it => ?_)
  have ea : acc.toList = (kx.map fun x => x.2.1).map Value.ref := by
    have hl : acc.toList.length = kx.length := by rw [Array.length_toList, it.1]; exact l1
    rw [List.map_map]
    apply List.ext_getElem?
    intro j
    rw [List.getElem?_map]
    cases hj : acc.toList[j]? with
    | none =>
      have h1 := List.getElem?_eq_none_iff.mp hj
      rw [List.getElem?_eq_none (by omega)]
      all_goals rfl
    | some v =>
      obtain ⟨en, hen, hv⟩ := it.2 j v (by rw [← Array.getElem?_toList]; exact hj)
      have qe := entry_at he j
      rw [hen] at qe
      cases hb : kx[j]? with
      | none =>
        rw [hb] at qe
        exact nomatch (show some en = none from qe)
      | some b =>
        rw [hb] at qe
        have e2 : en = entryOfKey (tupleKind (mixKind X.prog X.w)) b := Option.some.inj qe
        rw [hv, e2]
        all_goals rfl
  have pk := isKeys_ints (isKeys_of pr) hks
  have hmap := prd_keys pk
  have I1 : Inv X pins σ H { s with heap := h', toks := tk } := I.kept kp
  have hz : acc.toList.length ≤ sizeLine := by rw [ea, List.length_map, List.length_map]; omega
  refine wpAny_bind (wpAny_newList ?_ hz)
  have hoL : (h'.push (seqObj "list" acc.toList.toArray 0)).get? h'.objs.size = some (seqObj "list" acc.toList.toArray 0) := Heap.get?_push_size _ rfl
  show wpAny _ _ _ _ _ { s with heap := h'.push (seqObj "list" acc.toList.toArray 0), toks := tk }
  have hb0 : ∀ b ∈ kx.map (fun x => x.2.1), H b = some (.tup ((tupOf H b).map V.int)) ∧ (tupOf H b).length = n := fun b hb => by
    obtain ⟨k, hk, h1⟩ := prd_mem pk b hb
    rw [tupOf_is h1]
    exact ⟨h1, hlen k hk⟩
  have tn : Vx.TupsN h' n (fun u => match u with | .ref b => tupOf H b | _ => []) acc.toList := fun v hv => by
    rw [ea] at hv
    obtain ⟨b, hb, rfl⟩ := List.mem_map.mp hv
    exact ⟨tupI_raw I1 (.inl (.inl (hb0 b hb).1)), (hb0 b hb).2⟩
  refine wpAny_bind (wpAny_holding (wpAny_call_entry PyProof.Rows.slot_list_sort ⟨_, hoL, rfl⟩ PyProof.Rows.entry_list_sort
    (SrtO.list_sort_ord (s := { s with heap := h'.push (seqObj "list" acc.toList.toArray 0), toks := tk }) (Vx.swo_lex _) hoL hz (fun h2 => Vx.tups_sortable hn1 (by omega) (fun v hv => ⟨(tn v hv).1.keeps fun b o e c => Heap.get?_push_of_some _ e, (tn v hv).2⟩) fun o e c => ?_) fun out g1 g2 => ⟨_, rfl, ?_⟩) (PyProof.Rows.args_list_sort _)))
  · have e' : some o = some (seqObj "list" acc.toList.toArray 0) := e.symm.trans hoL
    cases e'
    exact absurd (Value.type.inj c) (by decide)
  · obtain ⟨e', he'⟩ := PyProof.Rows.sortedHeap_at (vs := acc.toList) (out := out.toArray) hoL
    have g2p := g2.perm
    have hperm : (out.map adO).Perm (kx.map fun x => x.2.1) := by
      have p1 := g2p.map adO
      rw [ea, ad_map] at p1
      exact p1
    have eo : out = (out.map adO).map Value.ref := ref_map fun u hm => by
      have hm' : u ∈ acc.toList := g2p.mem_iff.mp hm
      rw [ea] at hm'
      obtain ⟨t, _, e⟩ := List.mem_map.mp hm'
      exact ⟨t, e.symm⟩
    have hl2 : ((out.map adO).map V.ref).length ≤ sizeLine := by
      rw [List.length_map, hperm.length_eq, List.length_map]
      omega
    have rvo : Vals ((out.map adO).map V.ref) out := by
      have z := of_nts (out.map adO)
      rw [← eo] at z
      exact z
    refine wpAny_pure ⟨_, rfl, .ref h'.objs.size, upd H h'.objs.size (.lst ((out.map adO).map V.ref)), I1.laid (t' := tk) (fun b u e => ?_) (Nat.le_refl _)
      (show ObjOk X.prog X.w _ _ _ (.lst ((out.map adO).map V.ref)) from ⟨hl2, out, e', rvo, he'⟩), rfl, q _ ((out.map adO).map (tupOf H)) _ ?_ ?_ (keys_prd fun b hb => (hb0 b (hperm.mem_iff.mp hb)).1) (I1.hok.fresh (Nat.le_refl _))⟩
    · have hb : b < h'.objs.size := Heap.lt_size e
      rw [PyProof.Rows.sortedHeap_old (Nat.ne_of_lt hb) (by rw [size_push']; exact Nat.lt_succ_of_lt hb)]
      exact Heap.get?_push_of_some _ e
    · rw [← hmap]
      exact hperm.map _
    · rw [List.pairwise_map, List.pairwise_map]
      refine (List.Pairwise.imp_of_mem (fun {u v} hu hv huv => ?_) g1)
      have q1 : ∀ x ∈ out, (match x with | .ref b => tupOf H b | _ => []) = tupOf H (adO x) := fun x hx => by
        have hm' : x ∈ acc.toList := g2p.mem_iff.mp hx
        rw [ea] at hm'
        obtain ⟨t, _, e⟩ := List.mem_map.mp hm'
        rw [← e]
        rfl
      have h1 := q1 u hu
      have h2 := q1 v hv
      rw [← h1, ← h2]
      exact huv
end
end L2

/-! dicts from tuples of ints to ints -/
namespace Dx
open PySem PySem.Spec PyProof.Rows L2 Evl
abbrev kI (k : List Int) : List Key := k.map Sum.inl
theorem kI_inj : ∀ {a b : List Int}, kI a = kI b → a = b
  | [], [], _ => rfl
  | [], _ :: _, h => nomatch h
  | _ :: _, [], h => nomatch h
  | x :: a, y :: b, h => by
    have h1 := (List.cons.inj h).1
    have h2 := (List.cons.inj h).2
    rw [Sum.inl.inj h1, kI_inj h2]
abbrev Mp := List (List Int × Int)
def toK (m : Mp) : List (List Key × V) := m.map fun p => (kI p.1, V.int p.2)
def lkI : Mp → List Int → Option Int
  | [], _ => none
  | p :: m, k => if p.1 = k then some p.2 else lkI m k
def ptI : Mp → List Int → Int → Mp
  | [], k, v => [(k, v)]
  | p :: m, k, v => if p.1 = k then (p.1, v) :: m else p :: ptI m k v
theorem lk_toK (k : List Int) : ∀ m : Mp, valV (toK m) (kI k) = (lkI m k).map V.int
  | [] => rfl
  | p :: m => by
    show valV ((kI p.1, V.int p.2) :: toK m) (kI k) = _
    unfold lkI
    by_cases h : p.1 = k
    · rw [if_pos h, valV_pos (by rw [h])]
      rfl
    · rw [if_neg h, valV_neg (fun z => h (kI_inj z)), lk_toK k m]
theorem lkI_some_mem {k : List Int} {v : Int} : ∀ {m : Mp}, lkI m k = some v → (k, v) ∈ m
  | [], h => nomatch h
  | p :: m, h => by
    unfold lkI at h
    by_cases e : p.1 = k
    · rw [if_pos e] at h
      cases h
      subst e
      exact List.mem_cons_self
    · rw [if_neg e] at h
      exact List.mem_cons_of_mem _ (lkI_some_mem h)
theorem lkI_none {k : List Int} : ∀ {m : Mp}, lkI m k = none ↔ ∀ p ∈ m, p.1 ≠ k
  | [] => ⟨fun _ p hp => (nomatch hp), fun _ => rfl⟩
  | p :: m => by
    unfold lkI
    by_cases e : p.1 = k
    · rw [if_pos e]
      exact ⟨fun h => (nomatch h), fun h => absurd e (h p List.mem_cons_self)⟩
    · rw [if_neg e, lkI_none]
      exact ⟨fun h q hq => by
        rcases List.mem_cons.mp hq with z | z
        · rw [z]
          exact e
        · exact h q z, fun h q hq => h q (List.mem_cons_of_mem _ hq)⟩
theorem lk_pt (k j : List Int) (v : Int) : ∀ m : Mp, lkI (ptI m k v) j = if j = k then some v else lkI m j
  | [] => by
    show (if k = j then some v else none) = _
    by_cases h : j = k
    · rw [if_pos h, if_pos h.symm]
    · rw [if_neg h, if_neg fun z => h z.symm]
      rfl
  | p :: m => by
    unfold ptI
    by_cases e : p.1 = k
    · rw [if_pos e]
      show (if p.1 = j then some v else lkI m j) = if j = k then some v else (if p.1 = j then some p.2 else lkI m j)
      by_cases h : j = k
      · rw [if_pos h, if_pos (e.trans h.symm)]
      · rw [if_neg h, if_neg fun z => h (z.symm.trans e), if_neg fun z => h (z.symm.trans e)]
    · rw [if_neg e]
      show (if p.1 = j then some p.2 else lkI (ptI m k v) j) = if j = k then some v else (if p.1 = j then some p.2 else lkI m j)
      by_cases h : p.1 = j
      · rw [if_pos h, if_pos h, if_neg fun z => e (h.trans z)]
      · rw [if_neg h, if_neg h, lk_pt k j v m]
/-- keys stand once -/
def Nd (m : Mp) : Prop := (m.map (·.1)).Nodup
theorem pt_keys (k : List Int) (v : Int) : ∀ m : Mp, (ptI m k v).map (·.1) = if (lkI m k).isSome = true then m.map (·.1) else m.map (·.1) ++ [k]
  | [] => rfl
  | p :: m => by
    unfold ptI lkI
    by_cases e : p.1 = k
    · rw [if_pos e, if_pos e]
      rfl
    · rw [if_neg e, if_neg e, List.map_cons, pt_keys k v m]
      split <;> rfl
theorem put_toK {m : Mp} (hn : Nd m) (k : List Int) (v : Int) : putK (toK m) (kI k) (.int v) = toK (ptI m k v) := by
  unfold putK
  rw [valV_any, lk_toK, Option.isSome_map]
  induction m with
  | nil => rfl
  | cons p m ih =>
    have hn' : p.1 ∉ m.map (·.1) ∧ Nd m := List.nodup_cons.mp hn
    have ih := ih hn'.2
    unfold lkI ptI
    by_cases e : p.1 = k
    · rw [if_pos e, if_pos e, if_pos (show (some p.2).isSome = true from rfl)]
      show (fun kv : List Key × V => if kv.1 = kI k then (kv.1, V.int v) else kv) (kI p.1, V.int p.2) :: (toK m).map _ = (kI p.1, V.int v) :: toK m
      congr 1
      · show (if kI p.1 = kI k then (kI p.1, V.int v) else (kI p.1, V.int p.2)) = _
        rw [if_pos (by rw [e])]
      · have hid : ∀ q ∈ toK m, (if q.1 = kI k then (q.1, V.int v) else q) = q := fun q hq => by
          obtain ⟨q', hq', rfl⟩ := List.mem_map.mp hq
          rw [if_neg]
          intro z
          exact hn'.1 (List.mem_map.mpr ⟨q', hq', (kI_inj z).trans e.symm⟩)
        rw [List.map_congr_left hid, List.map_id']
    · rw [if_neg e, if_neg e]
      by_cases hs : (lkI m k).isSome = true
      · rw [if_pos hs] at ih ⊢
        show (if kI p.1 = kI k then (kI p.1, V.int v) else (kI p.1, V.int p.2)) :: (toK m).map _ = (kI p.1, V.int p.2) :: toK (ptI m k v)
        rw [if_neg fun z => e (kI_inj z), ih]
      · rw [if_neg hs] at ih ⊢
        show (kI p.1, V.int p.2) :: (toK m ++ _) = (kI p.1, V.int p.2) :: toK (ptI m k v)
        rw [ih]
theorem pt_nd {m : Mp} (hn : Nd m) (k : List Int) (v : Int) : Nd (ptI m k v) := by
  unfold Nd
  rw [pt_keys]
  split
  · exact hn
  · rename_i h
    have hnone : lkI m k = none := by
      cases hh : lkI m k with
      | none => rfl
      | some x => rw [hh] at h; exact absurd rfl h
    refine List.nodup_append.mpr ⟨hn, (List.nodup_cons.mpr ⟨List.not_mem_nil, List.nodup_nil⟩), fun a ha b hb => ?_⟩
    rw [List.mem_singleton.mp hb]
    obtain ⟨p, hp, rfl⟩ := List.mem_map.mp ha
    exact lkI_none.mp hnone p hp
/-! ### values -/
/-- a key: the tuple of these ints itself stands there -/
def KeyV (k : List Int) : PV := fun v B => ∃ a, v = .ref a ∧ B a = some (.tup (k.map V.int))
/-- a dict that stands -/
def DicV (m : Mp) : PV := fun v B => ∃ a, v = .ref a ∧ B a = some (.dT (toK m))
theorem upc_key {k : List Int} : Upc (KeyV k) := fun _ _ _ e ⟨a, h, g⟩ => ⟨a, h, e _ _ g⟩
theorem upc_dic {m : Mp} : Upc (DicV m) := fun _ _ _ e ⟨a, h, g⟩ => ⟨a, h, e _ _ g⟩
theorem kV_kI : ∀ k : List Int, (kI k).map kV = k.map V.int := L2.kV_inl
theorem dget {H : Hp} {a b : Addr} {m : Mp} {k : List Int} (h : H a = some (.dT (toK m))) (g : H b = some (.tup (k.map V.int))) : DGet H a (.ref b) ((lkI m k).map V.int) := by
  rw [← lk_toK]
  exact DGet.t h (by rw [kV_kI]; exact g)
section
variable {F : Fm} {σ : L2.St} {B : Hp} {td ty : TE} {m : Mp} {k : List Int} {d : Int}
theorem ev_dget2 (hd : EV F td σ B (DicV m)) (hk : EV F ty σ B (KeyV k)) : EV F (tDGet2 td ty (tC (.int d))) σ B (fun v _ => v = .int ((lkI m k).getD d)) := fun B1 e1 H j Q q =>
  hd B1 e1 H j _ fun v B2 H2 s2 j2 ⟨a, ha, g⟩ => ⟨a, ha, .inr ⟨_, .inl (j2.e _ _ g)⟩, hk B2 (e1.trans s2.bb) H2 j2 _ fun u B3 H3 s3 j3 ⟨b, hb, g3⟩ => by
    refine ⟨_, by rw [hb]; exact dget (j3.e _ _ (s3.bb _ _ g)) (j3.e _ _ g3), ?_⟩
    refine q _ B3 H3 (s2.trans s3) j3 ?_
    cases lkI m k <;> rfl⟩
theorem ev_din (hd : EV F td σ B (DicV m)) (hk : EV F ty σ B (KeyV k)) : EV F (tDIn ty td) σ B (fun v _ => v = .bl (lkI m k).isSome) := fun B1 e1 H j Q q =>
  hk B1 e1 H j _ fun u B2 H2 s2 j2 ⟨b, hb, g⟩ => hd B2 (e1.trans s2.bb) H2 j2 _ fun v B3 H3 s3 j3 ⟨a, ha, g3⟩ => by
    refine ⟨a, _, ha, by rw [hb]; exact dget (j3.e _ _ g3) (j3.e _ _ (s3.bb _ _ g)), ?_⟩
    rw [Option.isSome_map]
    exact q _ B3 H3 (s2.trans s3) j3 rfl
theorem ev_dnin (hd : EV F td σ B (DicV m)) (hk : EV F ty σ B (KeyV k)) : EV F (tDNotIn ty td) σ B (fun v _ => v = .bl (!(lkI m k).isSome)) := fun B1 e1 H j Q q =>
  hk B1 e1 H j _ fun u B2 H2 s2 j2 ⟨b, hb, g⟩ => hd B2 (e1.trans s2.bb) H2 j2 _ fun v B3 H3 s3 j3 ⟨a, ha, g3⟩ => by
    refine ⟨a, _, ha, by rw [hb]; exact dget (j3.e _ _ g3) (j3.e _ _ (s3.bb _ _ g)), ?_⟩
    rw [Option.isSome_map]
    exact q _ B3 H3 (s2.trans s3) j3 rfl
theorem ev_dget (hd : EV F td σ B (DicV m)) (hk : EV F ty σ B (KeyV k)) {n : Int} (hn : lkI m k = some n) : EV F (tDGet td ty) σ B (fun v _ => v = .int n) := fun B1 e1 H j Q q =>
  hd B1 e1 H j _ fun v B2 H2 s2 j2 ⟨a, ha, g⟩ => hk B2 (e1.trans s2.bb) H2 j2 _ fun u B3 H3 s3 j3 ⟨b, hb, g3⟩ => by
    have h := dget (j3.e _ _ (s3.bb _ _ g)) (j3.e _ _ g3)
    rw [hn] at h
    exact ⟨a, .int n, ha, by rw [hb]; exact h, q _ B3 H3 (s2.trans s3) j3 rfl⟩
end
/-- the ints of a tuple that is data: the tuple itself, where the module's tuples hold no ints -/
def noInts (K : PySem.W.Frag) : Bool := K.all fun p => match p.2.data with
  | .seq its _ => its.toList.all fun v => match v with | .int _ _ => false | _ => true
  | _ => true
theorem lookup_mem {K : PySem.W.Frag} {a : Addr} {o : Obj} : K.lookup a = some o → (a, o) ∈ K := by
  induction K with
  | nil => intro h; cases h
  | cons p r ih =>
    obtain ⟨b, x⟩ := p
    intro h
    rw [List.lookup_cons] at h
    split at h
    · rename_i e
      cases h
      rw [beq_iff_eq.mp e]
      exact List.mem_cons_self
    · exact List.mem_cons_of_mem _ (ih h)
theorem ddAll_ints {K : PySem.W.Frag} {H : Hp} : ∀ {k : List Int} {vs : List V}, DdAll K H vs (k.map .int) → vs = k.map V.int
  | [], _, h => by cases h; rfl
  | n :: k, _, h => by
    cases h with
    | cons a t => rw [dd_int a, ddAll_ints t]; rfl
theorem key_of {K : PySem.W.Frag} (hK : noInts K = true) {B : Hp} {v : V} {k : List Int} (hne : k ≠ []) (h : Dd K B v (.tuple (k.map .int))) : KeyV k v B := by
  obtain ⟨a, xs, rfl, h1, _, h3⟩ := dd_tupA h
  obtain rfl := ddAll_ints h3
  rcases h1 with h1 | ⟨o, its, n, hl, hc, hd, hz, hv⟩
  · exact ⟨a, rfl, h1⟩
  · exfalso
    have hm := List.all_eq_true.mp hK _ (lookup_mem hl)
    simp only [hd] at hm
    cases k with
    | nil => exact hne rfl
    | cons n k =>
      rw [List.map_cons] at hv
      generalize its.toList = l at hv hm
      cases hv with
      | @cons _ u _ us hr ht =>
        obtain ⟨t, rfl⟩ : ∃ t, u = Value.int n t := hr
        simp at hm
end Dx

/-! a dict of one's own that grows -/
namespace Dx
open PySem PySem.Spec PyProof.Rows L2 Evl
structure D1 (B0 H0 B H : Hp) (na : Addr) (m : Mp) : Prop where
  st : Step (fun _ => False) B0 H0 B H
  n0 : H0 na = none
  bn : B na = none
  hn : H na = some (.dT (toK m))
section
variable {B0 H0 B H B5 H5 : Hp} {na : Addr} {m : Mp} {σ : L2.St} {te td ty tv : TE} {t : TT} {tu tw tz : TS} {D : Ends} {i : Nat} {P : PV} {b : Bool} {n : Int} {k : List Int}
theorem D1.ok (d : D1 B0 H0 B H na m) : Ok Fm.pure B H := Ok.any d.st.bh
theorem D1.pass (d : D1 B0 H0 B H na m) (s : Step (fun _ => False) B H B5 H5) : D1 B0 H0 B5 H5 na m := ⟨d.st.trans s, d.n0, s.sep na d.bn ⟨_, d.hn, trivial⟩, s.ex _ _ d.hn⟩
theorem D1.set (d : D1 B0 H0 B H na m) (m' : Mp) : D1 B0 H0 B (upd H na (.dT (toK m'))) na m' := ⟨step_set d.st d.n0 d.bn, d.n0, d.bn, upd_same⟩
/-- the dict stands as data for a while -/
theorem D1.shut (d : D1 B0 H0 B H na m) : Ex B (upd B na (.dT (toK m))) ∧ Ok Fm.pure (upd B na (.dT (toK m))) H ∧ DicV m (.ref na) (upd B na (.dT (toK m))) := by
  refine ⟨Ex.new d.bn, Ok.any fun a o h => ?_, na, rfl, upd_same⟩
  by_cases e : a = na
  · subst e
    rw [upd_same] at h
    rw [d.hn]
    exact h
  · rw [upd_ne e] at h
    exact d.st.bh a o h
/-- heaps that grew behind a look -/
theorem D1.grown (d : D1 B0 H0 B H na m) (e : Ex H H5) : D1 B0 H0 B H5 na m :=
  ⟨d.st.trans ⟨Ex.refl B, fun a o h => e _ _ (d.st.bh a o h), fun a o _ h => e _ _ h, fun a h _ => h, (fun a hn => by
    cases hh : H a with
    | none => exact absurd hh hn
    | some o => rw [e _ _ hh]; exact fun z => nomatch z), fun a ⟨o, h, n⟩ => ⟨o, e _ _ h, n⟩⟩, d.n0, d.bn, e _ _ d.hn⟩
/-- x = {} -/
theorem qd_new (k0 : Ok Fm.pure B H) (q : ∀ na, D1 B H B (upd H na (.dT (toK []))) na [] → tz D (σ.set i (some (.ref na))) (upd H na (.dT (toK [])))) : tSeq (tAsg tDNewT (gName i)) tz D σ H :=
  fun na hna => q na ⟨step_set (Step.refl k0.e) hna (fresh_back k0.e hna), hna, fresh_back k0.e hna, upd_same⟩
/-- x = e, e looks at the dict and gives what needs no heap -/
theorem qd_look {W : V → Prop} (d : D1 B0 H0 B H na m) (h : EV Fm.pure te σ (upd B na (.dT (toK m))) (fun v _ => W v)) (q : ∀ v H5, D1 B0 H0 B H5 na m → W v → tz D (σ.set i (some v)) H5) : tSeq (tAsg te (gName i)) tz D σ H :=
  h _ (Ex.refl _) H d.shut.2.1 _ fun v B5 H5 s5 _ w => q v H5 (d.grown s5.ex) w
theorem sd_if (d : D1 B0 H0 B H na m) (h : ETt Fm.pure t σ (upd B na (.dT (toK m))) b) (h1 : b = true → ∀ H5, D1 B0 H0 B H5 na m → tu D σ H5) (h2 : b = false → ∀ H5, D1 B0 H0 B H5 na m → tw D σ H5) : tIfS t tu tw D σ H :=
  h _ (Ex.refl _) H d.shut.2.1 _ fun B5 H5 s5 _ => by
    cases b with
    | true =>
      show tu D σ H5
      exact h1 rfl H5 (d.grown s5.ex)
    | false =>
      show tw D σ H5
      exact h2 rfl H5 (d.grown s5.ex)
/-- x[k] = e -/
theorem sd_put (d : D1 B0 H0 B H na m) (hi : σ[i]? = some (some (.ref na))) (hv : EV Fm.pure tv σ B (fun v _ => v = .int n)) (hk : EV Fm.pure ty σ B (KeyV k)) (nd : Nd m) (hl : m.length < 16777216) (q : ∀ B5 H5, D1 B0 H0 B5 H5 na (ptI m k n) → Ex B B5 → D.nx σ H5) : sDPut (tVar i) ty tv D σ H :=
  hv B (Ex.refl B) H d.ok _ fun v B1 H1 s1 j1 ev => ⟨.ref na, hi, hk B1 s1.bb H1 j1 _ fun u B2 H2 s2 j2 ⟨a, eu, g⟩ => by
    have d2 := d.pass (s1.trans s2)
    subst ev eu
    refine ⟨na, upd H2 na (.dT (putK (toK m) (kI k) (.int n))), rfl, DPut.t d2.hn (by rw [kV_kI]; exact j2.e _ _ g) ?_, ?_⟩
    · rw [sizeLine_eq]
      show (List.map _ m).length < _
      rw [List.length_map]
      exact hl
    · rw [put_toK nd]
      exact q B2 _ (d2.set _) (s1.bb.trans s2.bb)⟩
end
end Dx

/-! tuples of ints: at least -/
namespace Dx
open PySem PySem.Spec PyProof.Rows L2 Evl
def geI : List Int → List Int → Bool
  | _, [] => true
  | [], _ :: _ => false
  | x :: xs, y :: ys => if x = y then geI xs ys else decide (y ≤ x)
def rGeT (K : PySem.W.Frag) : R2 := fun x y H Q => ∃ (a b : Addr) (ns ms : List Int), x = .ref a ∧ y = .ref b ∧ SqT K H a (ns.map V.int) ∧ SqT K H b (ms.map V.int) ∧ Q (.bl (geI ns ms)) H
theorem lex_sh {e r e' r' : Nat → Bool} {z : Bool} : ∀ (k i : Nat), (∀ j, e (j + 1) = e' j) → (∀ j, r (j + 1) = r' j) → Ob.lexAt e r z (i + 1) k = Ob.lexAt e' r' z i k
  | 0, _, _, _ => rfl
  | k + 1, i, h, g => by rw [Ob.lexAt_succ, Ob.lexAt_succ, h, g, lex_sh k (i + 1) h g]
theorem lex_ge : ∀ (ns ms : List Int), Ob.lexAt (fun j => decide (ns.getD j 0 = ms.getD j 0)) (fun j => decide (ms.getD j 0 ≤ ns.getD j 0)) (decide (ns.length ≥ ms.length)) 0 (min ns.length ms.length) = geI ns ms
  | ns, [] => by
    rw [show min ns.length ([] : List Int).length = 0 from Nat.min_zero _, Ob.lexAt_zero]
    cases ns <;> rfl
  | [], m :: ms => by
    rw [show min ([] : List Int).length (m :: ms).length = 0 from Nat.zero_min _, Ob.lexAt_zero]
    rfl
  | n :: ns, m :: ms => by
    rw [show min (n :: ns).length (m :: ms).length = min ns.length ms.length + 1 by simp only [List.length_cons]; omega, Ob.lexAt_succ]
    rw [lex_sh (e' := fun j => decide (ns.getD j 0 = ms.getD j 0)) (r' := fun j => decide (ms.getD j 0 ≤ ns.getD j 0)) _ 0 (fun _ => rfl) (fun _ => rfl)]
    rw [show decide ((n :: ns).length ≥ (m :: ms).length) = decide (ns.length ≥ ms.length) from decide_eq_decide.mpr (by simp only [List.length_cons]; omega), lex_ge ns ms]
    show (if decide (n = m) = true then geI ns ms else decide (m ≤ n)) = geI (n :: ns) (m :: ms)
    by_cases e : n = m
    · rw [if_pos (decide_eq_true e)]
      show _ = if n = m then geI ns ms else decide (m ≤ n)
      rw [if_pos e]
    · rw [if_neg (by rw [decide_eq_false e]; exact Bool.false_ne_true)]
      show _ = if n = m then geI ns ms else decide (m ≤ n)
      rw [if_neg e]
theorem ints_laid : ∀ {ns : List Int} {its : List Value}, Vals (ns.map V.int) its → its.length = ns.length ∧ ∀ j (g : j < its.length), ∃ t, its[j] = .int (ns.getD j 0) t
  | ns, its, h => by
    have i : IntsAre its ns := Vals.ints h
    exact ⟨i.length, fun j g => PyProof.Rows.IntsAre.int_at i _ _ (by simp [g])⟩
theorem op_geT {X : Cx} (hu : X.A.units < cLine) : OpR X (compareOp .GtE) (rGeT X.K) := by
  rintro pins s σ H x y v u Q I e1 e2 ⟨a, b, ns, ms, rfl, rfl, ha, hb, q⟩
  cases (show v = Value.ref a from e1)
  cases (show u = Value.ref b from e2)
  obtain ⟨as, ra, pa, _⟩ := I.tuple ha
  obtain ⟨bs, rb, pb, _⟩ := I.tuple hb
  obtain ⟨la, fa⟩ := ints_laid ra
  obtain ⟨lb, fb⟩ := ints_laid rb
  rw [← lex_ge] at q
  have R := Ob.RcOp.tuples_ge (A := X.A) (s := s) (e := fun j => decide (ns.getD j 0 = ms.getD j 0)) (r := fun j => decide (ms.getD j 0 ≤ ns.getD j 0)) pa pb hu
    (fun j g g' => by
      obtain ⟨t, e⟩ := fa j (by simpa using g)
      obtain ⟨t', e'⟩ := fb j (by simpa using g')
      simp only [List.getElem_toArray, e, e']
      have z := SeqAt.EqAt.int_int (A := X.A.in1) (s := s) (ns.getD j 0) t (ms.getD j 0) t'
      rwa [show (ns.getD j 0 == ms.getD j 0) = decide (ns.getD j 0 = ms.getD j 0) from rfl] at z)
    fun j g g' _ => by
      obtain ⟨t, e⟩ := fa j (by simpa using g)
      obtain ⟨t', e'⟩ := fb j (by simpa using g')
      simp only [List.getElem_toArray, e, e']
      exact Ob.RcOp.ge_int _ _ t t'
  rw [List.size_toArray, List.size_toArray, la, lb] at R
  exact R X.prog X.w X.xe (EP X pins σ Q) ⟨.bl _, H, I, rfl, q⟩
/-! less -/
def ltI : List Int → List Int → Bool
  | _, [] => false
  | [], _ :: _ => true
  | x :: xs, y :: ys => if x = y then ltI xs ys else decide (x < y)
theorem ge_lt : ∀ (ns ms : List Int), geI ns ms = !ltI ns ms
  | [], [] => rfl
  | _ :: _, [] => rfl
  | [], _ :: _ => rfl
  | n :: ns, m :: ms => by
    show (if n = m then geI ns ms else decide (m ≤ n)) = !(if n = m then ltI ns ms else decide (n < m))
    by_cases e : n = m
    · rw [if_pos e, if_pos e, ge_lt ns ms]
    · rw [if_neg e, if_neg e]
      by_cases g : n < m
      · rw [decide_eq_true g, decide_eq_false (by omega)]
        rfl
      · rw [decide_eq_false g, decide_eq_true (by omega)]
        rfl
def rLtT (K : PySem.W.Frag) : R2 := fun x y H Q => ∃ (a b : Addr) (ns ms : List Int), x = .ref a ∧ y = .ref b ∧ SqT K H a (ns.map V.int) ∧ SqT K H b (ms.map V.int) ∧ Q (.bl (ltI ns ms)) H
theorem lex_lt : ∀ (ns ms : List Int), Ob.lexAt (fun j => decide (ns.getD j 0 = ms.getD j 0)) (fun j => decide (ns.getD j 0 < ms.getD j 0)) (decide (ns.length < ms.length)) 0 (min ns.length ms.length) = ltI ns ms
  | ns, [] => by
    rw [show min ns.length ([] : List Int).length = 0 from Nat.min_zero _, Ob.lexAt_zero]
    cases ns <;> rfl
  | [], m :: ms => by
    rw [show min ([] : List Int).length (m :: ms).length = 0 from Nat.zero_min _, Ob.lexAt_zero, decide_eq_true (by simp)]
    rfl
  | n :: ns, m :: ms => by
    rw [show min (n :: ns).length (m :: ms).length = min ns.length ms.length + 1 by simp only [List.length_cons]; omega, Ob.lexAt_succ]
    rw [lex_sh (e' := fun j => decide (ns.getD j 0 = ms.getD j 0)) (r' := fun j => decide (ns.getD j 0 < ms.getD j 0)) _ 0 (fun _ => rfl) (fun _ => rfl)]
    rw [show decide ((n :: ns).length < (m :: ms).length) = decide (ns.length < ms.length) from decide_eq_decide.mpr (by simp only [List.length_cons]; omega), lex_lt ns ms]
    show (if decide (n = m) = true then ltI ns ms else decide (n < m)) = if n = m then ltI ns ms else decide (n < m)
    by_cases e : n = m
    · rw [if_pos (decide_eq_true e), if_pos e]
    · rw [if_neg (by rw [decide_eq_false e]; exact Bool.false_ne_true), if_neg e]
theorem op_ltT {X : Cx} (hu : X.A.units < cLine) : OpR X (compareOp .Lt) (rLtT X.K) := by
  intro pins s σ H x y v u Q I e1 e2 h
  obtain ⟨a, b, ns, ms, rfl, rfl, ha, hb, q⟩ := h
  cases (show v = Value.ref a from e1)
  cases (show u = Value.ref b from e2)
  obtain ⟨as, ra, pa, _⟩ := I.tuple ha
  obtain ⟨bs, rb, pb, _⟩ := I.tuple hb
  obtain ⟨la, fa⟩ := ints_laid ra
  obtain ⟨lb, fb⟩ := ints_laid rb
  rw [← lex_lt] at q
  have R := Ob.RcOp.tuples_lt (A := X.A) (s := s) (e := fun j => decide (ns.getD j 0 = ms.getD j 0)) (r := fun j => decide (ns.getD j 0 < ms.getD j 0)) pa pb hu
    (fun j g g' => by
      obtain ⟨t, e⟩ := fa j (by simpa using g)
      obtain ⟨t', e'⟩ := fb j (by simpa using g')
      simp only [List.getElem_toArray, e, e']
      have z := SeqAt.EqAt.int_int (A := X.A.in1) (s := s) (ns.getD j 0) t (ms.getD j 0) t'
      rwa [show (ns.getD j 0 == ms.getD j 0) = decide (ns.getD j 0 = ms.getD j 0) from rfl] at z)
    fun j g g' _ => by
      obtain ⟨t, e⟩ := fa j (by simpa using g)
      obtain ⟨t', e'⟩ := fb j (by simpa using g')
      simp only [List.getElem_toArray, e, e']
      exact Ob.RcOp.lt_int _ _ t t'
  rw [List.size_toArray, List.size_toArray, la, lb] at R
  exact R X.prog X.w X.xe (EP X pins σ Q) ⟨.bl _, H, I, rfl, q⟩
theorem op_ltTK {X : Cx} (K : PySem.W.Frag) (hu : X.A.units < cLine) (hK : X.K = K := by rfl) : OpR X (compareOp .Lt) (rLtT K) := by subst hK; exact op_ltT hu
theorem op_geTK {X : Cx} (K : PySem.W.Frag) (hu : X.A.units < cLine) (hK : X.K = K := by rfl) : OpR X (compareOp .GtE) (rGeT K) := by subst hK; exact op_geT hu
theorem sq_ints {K : PySem.W.Frag} {H : Hp} {v : V} {ns : List Int} (h : Dd K H v (.tuple (ns.map .int))) : ∃ a, v = .ref a ∧ SqT K H a (ns.map V.int) := by
  obtain ⟨a, xs, rfl, h1, _, g1⟩ := dd_tup h
  obtain rfl := ddAll_ints g1
  exact ⟨a, rfl, h1⟩
theorem rd_ltT {F : Fm} {K : PySem.W.Frag} {B : Hp} {ns ms : List Int} : RD2 F K (rLtT K) B (.tuple (ns.map .int)) (.tuple (ms.map .int)) (.bool (ltI ns ms)) := rd_of fun H u v hu hv => by
  obtain ⟨a, rfl, ha⟩ := sq_ints hu
  obtain ⟨b, rfl, hb⟩ := sq_ints hv
  exact ⟨.bl _, fun _ => .bl _, fun Q q => ⟨a, b, ns, ms, rfl, rfl, ha, hb, q⟩⟩
theorem rd_geT {F : Fm} {K : PySem.W.Frag} {B : Hp} {ns ms : List Int} : RD2 F K (rGeT K) B (.tuple (ns.map .int)) (.tuple (ms.map .int)) (.bool (geI ns ms)) := rd_of fun H u v hu hv => by
  obtain ⟨a, rfl, ha⟩ := sq_ints hu
  obtain ⟨b, rfl, hb⟩ := sq_ints hv
  exact ⟨.bl _, fun _ => .bl _, fun Q q => ⟨a, b, ns, ms, rfl, rfl, ha, hb, q⟩⟩
end Dx

/-! list comprehensions with any number of clauses -/
namespace Cn
open PySem PySem.Spec PyProof.Rows L2
abbrev EvP := Value → Shared → Prop
/-- the tests of a clause -/
def tests (ifs : List Expr) (env : Env) : Sem Bool := forIn ifs true fun c r => if r = true then (do let ok ← isTrue c env (eval c env); pure (ForInStep.yield ok)) else pure (ForInStep.yield r)
section
variable (prog : Program) (w : World) (A : Around) (env : Env)
/-- a turn of a clause: the next item, its store, the tests; then `body` or `skip` -/
def CTurn (it : Value) (t : Expr) (ifs : List Expr) (E : EvP) (stop skip body : Shared → Prop) (s : Shared) : Prop := wpAny (model prog w) A (pyNext it) (fun r s₁ => match r with
  | none => stop s₁
  | some v => wpAny (model prog w) A (letOwnedTupleGo t it v) (fun _ s₂ => wpAny (model prog w) A (assign t env v) (fun _ s₃ => wpAny (model prog w) A (tests ifs env) (fun ok s₄ => if ok = true then body s₄ else skip s₄) E s₃) E s₂) E s₁) E s
/-- the body of a clause that has another behind it -/
def BOut (e : Expr) (l : Nat) (acc : Value) (i1 : Expr) (E : EvP) (P : Shared → Prop) (s : Shared) : Prop := wpAny (model prog w) A (eval i1 env) (fun x s₅ => wpAny (model prog w) A (pyIter x) (fun it1 s₆ => codeAny (model prog w) A (.compStart e l it1 acc env) (fun r s' => match r with
  | .ok _ => P s'
  | .error _ => False) s₆) E s₅) E s
/-- that of the last one -/
def BIn (elt : Expr) (acc : Value) (E : EvP) (P : Shared → Prop) (s : Shared) : Prop := wpAny (model prog w) A (eval elt env) (fun x s₅ => wpAny (model prog w) A (call (.builtin "list.append") [acc, x]) (fun _ s₆ => P s₆) E s₅) E s
end
section
variable {prog : Program} {w : World} {A : Around} {R : Result → Shared → Prop} {s : Shared} {elt t0 i0 t1 i1 : Expr} {ifs0 ifs1 : List Expr} {gens : List Comprehension} {l : Nat} {scope : Scope} {pos : Pos} {it acc : Value} {env : Env}
theorem cloop_out (h0 : gens[l]? = some ⟨t0, i0, ifs0, 0⟩) (h1 : gens[l + 1]? = some ⟨t1, i1, ifs1, 0⟩) (hs : ∀ x, foldedSetIterable i1 env x = pure x) (I : Nat → Shared → Prop)
    (turn : ∀ n s, I n s → CTurn prog w A env it t0 ifs0 (notedBy (model prog w) A env fun e s' => R (.error e) s') (fun s₁ => R (.ok .next) s₁) (fun s₄ => ∃ m, m < n ∧ I m s₄) (BOut prog w A env (.ListComp elt gens scope pos) (l + 1) acc i1 (notedBy (model prog w) A env fun e s' => R (.error e) s') fun s' => ∃ m, m < n ∧ I m s') s)
    (n : Nat) (h : I n s) : codeAny (model prog w) A (.compLoop (.ListComp elt gens scope pos) l it acc env) R s := by
  refine codeAny_loop rfl I (fun n s hI => ?_) n h
  show wpAny _ A (PySem.Sem.onRaise (compTurn (.ListComp elt gens scope pos) l it acc env) _) _ _ s
  refine wpAny_noted ?_
  have hT := turn n s hI
  unfold CTurn at hT
  unfold compTurn
  simp only [h0, h1]
  refine wpAny_bind (wpAny_standAt (wpAny_bind (wpAny_mono hT (fun r s₁ q₁ => ?_) fun _ _ z => z)))
  cases r with
  | none => exact wpAny_pure q₁
  | some v =>
    refine wpAny_bind (wpAny_mono q₁ (fun _ s₂ q₂ => wpAny_bind (wpAny_mono q₂ (fun _ s₃ q₃ => wpAny_bind (wpAny_mono q₃ (fun ok s₄ q₄ => ?_) fun _ _ z => z)) fun _ _ z => z)) fun _ _ z => z)
    cases ok with
    | false => exact wpAny_pure ⟨rfl, q₄⟩
    | true =>
      refine wpAny_bind (wpAny_mono q₄ (fun x s₅ q₅ => wpAny_bind (wpAny_standAt (wpAny_bind (wpAny_of_eq (hs x) (wpAny_bind (wpAny_holding (wpAny_mono q₅ (fun it1 s₆ q₆ => wpAny_bind (wpAny_runOwn ?_)) fun _ _ z => z))))))) fun _ _ z => z)
      rw [Around.mark_none]
      refine codeAny_mono q₆ fun r s' hr => ?_
      cases r with
      | error e => exact hr.elim
      | ok f => first | exact wpAny_pure ⟨rfl, hr⟩ | exact wpAny_bind (wpAny_pure (wpAny_pure ⟨rfl, hr⟩))
theorem cloop_in (h0 : gens[l]? = some ⟨t0, i0, ifs0, 0⟩) (h1 : gens[l + 1]? = none) (I : Nat → Shared → Prop)
    (turn : ∀ n s, I n s → CTurn prog w A env it t0 ifs0 (notedBy (model prog w) A env fun e s' => R (.error e) s') (fun s₁ => R (.ok .next) s₁) (fun s₄ => ∃ m, m < n ∧ I m s₄) (BIn prog w A env elt acc (notedBy (model prog w) A env fun e s' => R (.error e) s') fun s' => ∃ m, m < n ∧ I m s') s)
    (n : Nat) (h : I n s) : codeAny (model prog w) A (.compLoop (.ListComp elt gens scope pos) l it acc env) R s := by
  refine codeAny_loop rfl I (fun n s hI => ?_) n h
  show wpAny _ A (PySem.Sem.onRaise (compTurn (.ListComp elt gens scope pos) l it acc env) _) _ _ s
  refine wpAny_noted ?_
  have hT := turn n s hI
  unfold CTurn at hT
  unfold compTurn
  simp only [h0, h1]
  refine wpAny_bind (wpAny_standAt (wpAny_bind (wpAny_mono hT (fun r s₁ q₁ => ?_) fun _ _ z => z)))
  cases r with
  | none => exact wpAny_pure q₁
  | some v =>
    refine wpAny_bind (wpAny_mono q₁ (fun _ s₂ q₂ => wpAny_bind (wpAny_mono q₂ (fun _ s₃ q₃ => wpAny_bind (wpAny_mono q₃ (fun ok s₄ q₄ => ?_) fun _ _ z => z)) fun _ _ z => z)) fun _ _ z => z)
    cases ok with
    | false => exact wpAny_pure ⟨rfl, q₄⟩
    | true => exact wpAny_bind (wpAny_bind (wpAny_mono q₄ (fun x s₅ q₅ => wpAny_bind (wpAny_mono q₅ (fun _ s₆ q₆ => wpAny_pure (wpAny_pure ⟨rfl, q₆⟩)) fun _ _ z => z)) fun _ _ z => z))
theorem cstart_ok (hl : gens[l]? = some ⟨t0, i0, ifs0, 0⟩) (q0 : codeAny (model prog w) A (.compLoop (.ListComp elt gens scope pos) l it acc env) R s)
    (q : wpAny (model prog w) A (pyIter it) (fun it' s' => codeAny (model prog w) A (.compLoop (.ListComp elt gens scope pos) l it' acc env) R s') (notedBy (model prog w) A env fun x s' => R (.error x) s') s) :
    codeAny (model prog w) A (.compStart (.ListComp elt gens scope pos) l it acc env) R s := by
  refine codeAny_of_tree ?_
  show wpAny _ _ (PySem.Sem.onRaise (compStart (.ListComp elt gens scope pos) l it acc env) _) _ _ s
  refine wpAny_notedAt ?_
  unfold compStart
  simp only [show (clausesOf (.ListComp elt gens scope pos))[l]? = some ⟨t0, i0, ifs0, 0⟩ from hl]
  show wpAny _ _ (ask >>= _) _ _ s
  refine wpAny_bind (wpAny_askSetting (wpAny_ite ?_))
  split
  · first | exact wpAny_pure ⟨rfl, q0⟩ | exact wpAny_bind (wpAny_pure (wpAny_pure ⟨rfl, q0⟩))
  · refine wpAny_bind (wpAny_rule ?_)
    first
      | exact wpAny_bind (wpAny_standAt (wpAny_bind (wpAny_mono q (fun it' s' z => wpAny_pure ⟨rfl, z⟩) fun _ _ z => z)))
      | (show wpAny _ _ (standAt i0.pos >>= _) _ _ s; exact wpAny_bind (wpAny_standAt (wpAny_bind (wpAny_mono q (fun it' s' z => wpAny_pure ⟨rfl, z⟩) fun _ _ z => z))))
end
section
variable {prog : Program} {w : World} {A : Around} {R : Result → Shared → Prop} {s : Shared} {elt t0 i0 : Expr} {ifs0 : List Expr} {gens : List Comprehension} {l : Nat} {scope : Scope} {pos : Pos} {it acc : Value} {env : Env} {E : EvP} {stop skip b1 b2 : Shared → Prop}
theorem CTurn.mono (h : CTurn prog w A env it t0 ifs0 E stop skip b1 s) (i : ∀ s, b1 s → b2 s) : CTurn prog w A env it t0 ifs0 E stop skip b2 s := by
  unfold CTurn at h ⊢
  refine wpAny_mono h (fun r s₁ q₁ => ?_) fun _ _ z => z
  cases r with
  | none => exact q₁
  | some v => exact wpAny_mono q₁ (fun _ s₂ q₂ => wpAny_mono q₂ (fun _ s₃ q₃ => wpAny_mono q₃ (fun ok s₄ q₄ => by cases ok <;> first | exact q₄ | exact i _ q₄) fun _ _ z => z) fun _ _ z => z) fun _ _ z => z
/-- what stands behind the clause l -/
def Nxt (gens : List Comprehension) (env : Env) (l : Nat) : Prop := gens[l]? = none ∨ ∃ t1 i1 ifs1, gens[l]? = some ⟨t1, i1, ifs1, 0⟩ ∧ ∀ x, foldedSetIterable i1 env x = pure x
def Bdy (prog : Program) (w : World) (A : Around) (env : Env) (elt : Expr) (gens : List Comprehension) (scope : Scope) (pos : Pos) (l : Nat) (acc : Value) (E : EvP) (P : Shared → Prop) (s : Shared) : Prop :=
  (gens[l]? = none → BIn prog w A env elt acc E P s) ∧ ∀ t1 i1 ifs1, gens[l]? = some ⟨t1, i1, ifs1, 0⟩ → BOut prog w A env (.ListComp elt gens scope pos) l acc i1 E P s
theorem cloop_any (h0 : gens[l]? = some ⟨t0, i0, ifs0, 0⟩) (hn : Nxt gens env (l + 1)) (I : Nat → Shared → Prop)
    (turn : ∀ n s, I n s → CTurn prog w A env it t0 ifs0 (notedBy (model prog w) A env fun e s' => R (.error e) s') (fun s₁ => R (.ok .next) s₁) (fun s₄ => ∃ m, m < n ∧ I m s₄) (Bdy prog w A env elt gens scope pos (l + 1) acc (notedBy (model prog w) A env fun e s' => R (.error e) s') fun s' => ∃ m, m < n ∧ I m s') s)
    (n : Nat) (h : I n s) : codeAny (model prog w) A (.compLoop (.ListComp elt gens scope pos) l it acc env) R s := by
  rcases hn with h1 | ⟨t1, i1, ifs1, h1, hf⟩
  · exact cloop_in h0 h1 I (fun n s hI => (turn n s hI).mono fun s q => q.1 h1) n h
  · exact cloop_out h0 h1 hf I (fun n s hI => (turn n s hI).mono fun s q => q.2 _ _ _ h1) n h
end
abbrev Clz := TI × TG × TT × List Nat
def topV : List Clz → List Nat
  | [] => []
  | (_, _, _, vs) :: _ => vs
inductive Lv (Y : Cx) (gens : List Comprehension) : Nat → List Clz → Prop
  | nil {l : Nat} : gens[l]? = none → Lv Y gens l []
  | cons {l : Nat} {t i : Expr} {ifs : List Expr} {wi : TI} {g : TG} {tt : TT} {vs : List Nat} {r : List Clz} (h0 : gens[l]? = some ⟨t, i, ifs, 0⟩) (hp : PI Y t i wi) (hg : PG Y t g) (ht : PTs Y ifs tt) (hf : ∀ x, foldedSetIterable i Y.env x = pure x) (hv : ∀ i ∈ topV r, i ∈ vs) (hr : Lv Y gens (l + 1) r) : Lv Y gens l ((wi, g, tt, vs) :: r)
theorem Lv.nxt {Y : Cx} {gens : List Comprehension} {l : Nat} {r : List Clz} (h : Lv Y gens l r) : Nxt gens Y.env l := by
  cases h with
  | nil h => exact .inl h
  | cons h0 _ _ _ hf _ _ => exact .inr ⟨_, _, _, h0, hf⟩
/-- the loops of the clauses r, D the list that grows; Nx: what is reached when they are through -/
def lcIn (D : Addr) (te : TE) : List Clz → L2.St → Hp → (Hp → Prop) → Prop
  | [], σ, H, Nx => te σ H fun y H' => ∃ acc, H' D = some (.lst acc) ∧ acc.length < sizeLine ∧ Nx (upd H' D (.lst (acc ++ [y])))
  | (wi, g, tt, vs) :: r, σ, H, Nx => wi σ H fun J H1 => ∃ W : Nat → Nat → Hp → Prop, (∃ m, W 0 m H1) ∧ ∀ i m H, W i m H → (J.stop i H ∧ Nx H) ∨ (J.go i H ∧ ∃ N2 : Hp → Prop, (∀ H', N2 H' → ∃ m', m' < m ∧ W (i + 1) m' H') ∧
      ∀ x H', J.yld i H x H' → g x (wipe σ vs) H' fun σ2 H2 => wipe σ2 vs = wipe σ vs ∧ tt σ2 H2 fun b H3 => if b = true then lcIn D te r σ2 H3 N2 else N2 H3)
section
variable {Y : Cx} {elt : Expr} {gens : List Comprehension} {scope : Scope} {pos : Pos} {te : TE} {D : Addr}
theorem body_ok (hcal : Y.calm = true) (hxe : Y.xe = fun _ _ => False) (he : PE Y elt te) {l : Nat} {r : List Clz} (h : Lv Y gens l r) : ∀ (pins : List (Addr × Obj)) (σ : L2.St) (H : Hp) (s : Shared) (Nx : Hp → Prop) (P : Shared → Prop) (E : EvP), Inv Y pins σ H s → lcIn D te r σ H Nx →
    (∀ σ' H' s', Inv Y pins σ' H' s' → σ.length = σ'.length → (∀ (j : Nat) v, (wipe σ (topV r))[j]? = some (some v) → σ'[j]? = some (some v)) → Nx H' → P s') → Bdy Y.prog Y.w Y.A Y.env elt gens scope pos l (.ref D) E P s := by
  induction h with
  | nil hl =>
    intro pins σ H s Nx P E I q fin
    refine ⟨fun _ => ?_, fun _ _ _ z => (by rw [hl] at z; cases z)⟩
    unfold BIn
    have run := he.run pins s σ H _ I q
    rw [hxe] at run
    refine thnF run fun v s1 hEP => ?_
    obtain ⟨y, H1, I1, r1, acc, hD, hz, nx⟩ := hEP
    exact app_ok I1 hD hz r1 fun s2 I2 => fin σ _ s2 I2 rfl (fun j v e => e) nx
  | @cons l t i ifs wi g tt vs r h0 hp hg ht hf hv hr ih =>
    intro pins σ H s Nx P E I q fin
    refine ⟨fun z => (by rw [h0] at z; cases z), fun t1 i1 ifs1 z => ?_⟩
    have z' := h0.symm.trans z
    cases z'
    unfold BOut
    have run := hp.run pins s σ H _ I q
    rw [hxe] at run
    refine thnF run fun xv s1 hx => thnF hx fun itv s2 h2 => ?_
    obtain ⟨it, fp, tn, J, H2, e, I2, T, st2, f2, W, ⟨m0, w0⟩, turn⟩ := h2
    subst e
    have stat : ∀ {H' : Hp}, (∀ b ∈ fp, H' b = none) → ∀ b ∈ fp, FpOk Y pins H' b := fun hn b hb => ⟨hn b hb, (f2 b hb).2⟩
    have loop : codeAny (model Y.prog Y.w) Y.A (.compLoop (.ListComp elt gens scope pos) l (.ref it) (.ref D) Y.env) (fun r s' => match r with
        | .ok _ => P s'
        | .error _ => False) s2 := by
      refine cloop_any h0 hr.nxt (fun k s' => ∃ j H', Inv Y pins (wipe σ vs) H' s' ∧ tn j s'.heap ∧ (∀ b ∈ fp, H' b = none) ∧ W j k H') ?_ m0 ⟨0, H2, I2.weak (wipe_length _ _) (fun j v e => (wipe_some e).1), st2, fun b hb => (f2 b hb).1, w0⟩
      rintro k s3 ⟨j, H3, I3, st3, n3, w3⟩
      unfold CTurn
      rcases turn j k H3 w3 with ⟨hstop, nx⟩ | ⟨hgo, N2, hN2, step⟩
      · refine thnF (T.done Y rfl rfl rfl hcal j pins s3 (wipe σ vs) H3 (fun _ _ => False) I3 (stat n3) st3 hstop) fun r' s4 ⟨e4, I4⟩ => ?_
        subst e4
        exact fin _ _ _ I4 (wipe_length σ vs).symm (fun j v e => e) nx
      · refine thnF (T.item Y rfl rfl rfl hcal j pins s3 (wipe σ vs) H3 (fun _ _ => False) I3 (stat n3) st3 hgo) fun r' s4 ⟨u, e4, h4⟩ => ?_
        subst e4
        refine thnF h4 fun _ s5 ⟨x, H5, I5, r5, y5, st5, n5⟩ => ?_
        have I5' := I5.pinned (stat n5) (T.obj _ _ st5)
        have rg := hg.run (pins ++ pinsAt fp s5.heap) s5 (wipe σ vs) H5 x u _ I5' r5 (step x H5 y5)
        rw [hxe] at rg
        refine thnF rg fun _ s6 ⟨σ6, H6, I6, hw6, q6⟩ => ?_
        have rt := ht.run (pins ++ pinsAt fp s5.heap) s6 σ6 H6 _ I6 q6
        rw [hxe] at rt
        refine thnF rt fun b s7 ⟨H7, I7, q7⟩ => ?_
        have back : ∀ {σ' : L2.St} {H' : Hp} {s' : Shared}, Inv Y (pins ++ pinsAt fp s5.heap) σ' H' s' → σ6.length = σ'.length → (∀ (j : Nat) v, (wipe σ6 (topV r))[j]? = some (some v) → σ'[j]? = some (some v)) → N2 H' → ∃ m, m < k ∧ ∃ j H', Inv Y pins (wipe σ vs) H' s' ∧ tn j s'.heap ∧ (∀ b ∈ fp, H' b = none) ∧ W j m H' := by
          intro σ' H' s' I' hl hk nx
          obtain ⟨m', hm, w'⟩ := hN2 H' nx
          have pin : ∀ b ∈ fp, ∀ o, s5.heap.get? b = some o → s'.heap.get? b = some o ∧ H' b = none := fun b hb o e =>
            have z := I'.pin (b, o) (List.mem_append_right _ (List.mem_append_right _ (mem_pinsAt hb e)))
            ⟨z.1, z.2.1⟩
          refine ⟨m', hm, j + 1, H', I'.unpinned.weak ?_ (fun j v e => ?_), T.keep _ _ _ st5 fun b hb o e => (pin b hb o e).1, fun b hb => ?_, w'⟩
          · rw [← hl, ← hw6, wipe_length]
          · rw [← hw6] at e
            obtain ⟨e1, e2⟩ := wipe_some e
            refine hk j v ?_
            rw [wipe_out fun z => e2 (hv j z)]
            exact e1
          · obtain ⟨o, e, _⟩ := T.obj _ _ st5 b hb
            exact (pin b hb o e).2
        cases b with
        | false => exact back I7 rfl (fun j v e => (wipe_some e).1) (by simpa using q7)
        | true => exact ih (pins ++ pinsAt fp s5.heap) σ6 H7 s7 N2 _ _ I7 (by simpa using q7) fun σ' H' s' I' hl hk nx => back I' hl hk nx
    exact cstart_ok h0 loop (T.self Y.A 0 _ _ _ st2 loop)
end
/-- [elt for tg in iter if .. (the clauses r)] -/
def tLcN (wi : TI) (g : TG) (tt : TT) (r : List Clz) (te : TE) (vs : List Nat) : TE := fun σ H Q => wi σ H fun J H1 => ∀ D, H1 D = none → ∃ W : Nat → Nat → Hp → Prop, (∃ m, W 0 m (upd H1 D (.lst []))) ∧ ∀ i m H, W i m H → (J.stop i H ∧ Q (.ref D) H) ∨ (J.go i H ∧ ∃ N2 : Hp → Prop, (∀ H', N2 H' → ∃ m', m' < m ∧ W (i + 1) m' H') ∧
  ∀ x H', J.yld i H x H' → g x (wipe σ vs) H' fun σ2 H2 => wipe σ2 vs = wipe σ vs ∧ tt σ2 H2 fun b H3 => if b = true then lcIn D te r σ2 H3 N2 else N2 H3)
section
variable {X : Cx}
abbrev AtBlk (X : Cx) (scope : Scope) (C : Cx → Prop) : Prop := ∀ (s : Shared) (H : Hp) (a : Addr) (cl : List (Str × Addr)) (fp : List Addr), C (X.blk s H scope (compEnvC scope cl a X.env) fp)
theorem pe_lcN {elt tg iter : Expr} {ifs : List Expr} {more : List Comprehension} {scope : Scope} {own : List (Str × Nat)} {pos : Pos} {wi : TI} {g : TG} {tt : TT} {te : TE} {r : List Clz} (hc : X.calm = true) (hN : X.N.Nodup) (hi : PI X tg iter wi) (ok : BlkOk X.N X.env.scope scope own) (hv : ∀ i ∈ topV r, i ∈ own.map (·.2))
    (hg : AtBlk X scope fun Y => PG Y tg g) (ht : AtBlk X scope fun Y => PTs Y ifs tt) (he : AtBlk X scope fun Y => PE Y elt te) (hr : AtBlk X scope fun Y => Lv Y (⟨tg, iter, ifs, 0⟩ :: more) 1 r) (hs : ∀ x, foldedSetIterable iter X.env x = pure x := by intro _; rfl) :
    PE X (.ListComp elt (⟨tg, iter, ifs, 0⟩ :: more) scope pos) (tLcN wi g tt r te (own.map (·.2))) := by
  refine ⟨fun pins s σ H Q I h => ?_⟩
  rw [eval_ListComp]
  have free : ∀ y ∈ scope.names, y.2 = .free → ∃ c, X.env.cells.lookup y.1 = some c := fun y hy e => I.ok.has _ ((ok.free y hy e).imp id id)
  refine wpAny_comprehension_free (use := none) rfl hs (closure_ok free) ok.kind (fun y hy e => by rw [ok.uniq y hy, e]) (thn (hi.run pins s σ H _ I h) fun xv s1 hx => thn hx fun itv s2 h2 => ?_)
  obtain ⟨it, fp, tn, J, H2, e, I2, T, st2, f2, q⟩ := h2
  subst e
  refine wpAny_newObj_type (newEnv_comp ?_) (by show 0 ≤ sizeLine; decide)
  generalize hD : s2.heap.objs.size = D
  obtain ⟨W, ⟨m0, w0⟩, turn⟩ := q D (I2.hok.fresh (Nat.le_of_eq hD))
  generalize hs3 : ({ s2 with heap := s2.heap.push { cls := .type "list", data := .seq ([] : List Value).toArray } } : Shared) = s3
  have h3 : s3.heap = s2.heap.push { cls := .type "list", data := .seq ([] : List Value).toArray } := by rw [← hs3]
  have I3 : Inv X pins σ (upd H2 D (.lst [])) s3 := by
    rw [← hs3]
    refine I2.laid (t' := s2.toks) (fun b o e => Heap.get?_push_of_some _ e) (Nat.le_of_eq hD) ⟨Nat.zero_le _, [], 0, .nil, ?_⟩
    rw [← hD]
    exact Heap.get?_push_size _ rfl
  have f3 : ∀ b ∈ fp, FpOk X pins (upd H2 D (.lst [])) b ∧ b < s3.heap.objs.size := fun b hb => by
    obtain ⟨o, eo, _⟩ := T.obj _ _ st2 b hb
    have lt := Heap.lt_size eo
    exact ⟨⟨by rw [upd_ne (by rw [← hD]; exact Nat.ne_of_lt lt)]; exact (f2 b hb).1, (f2 b hb).2⟩, by rw [h3, Heap.size_push]; exact Nat.lt_succ_of_lt lt⟩
  have st3 : tn 0 s3.heap := T.keep _ _ _ st2 fun b _ o e => by rw [h3]; exact Heap.get?_push_of_some _ e
  have I4 := block_start I3 ok hN f3
  generalize hcl : cellsFrom (s3.heap.objs.size + 1) scope.names (cloFrom X.env.cells scope.names []) = cl at I4
  have pg := hg s3 (upd H2 D (.lst [])) s3.heap.objs.size cl fp
  have pt := ht s3 (upd H2 D (.lst [])) s3.heap.objs.size cl fp
  have pe := he s3 (upd H2 D (.lst [])) s3.heap.objs.size cl fp
  have pr := hr s3 (upd H2 D (.lst [])) s3.heap.objs.size cl fp
  have nfp : ∀ b ∈ fp, (upd H2 D (.lst [])) b = none := fun b hb => (f3 b hb).1.1
  show codeAny (model X.prog X.w) X.A (.compStart (.ListComp elt (⟨tg, iter, ifs, 0⟩ :: more) scope pos) 0 (.ref it) (.ref D) (compEnvC scope cl s3.heap.objs.size X.env)) (compPost (model X.prog X.w) X.A X.xe none _ (.ref D) s3.heap.objs.size) { s3 with heap := pushCells (s3.heap.push { cls := .type "dict", data := .dict #[] }) scope.names }
  generalize hs4 : ({ s3 with heap := pushCells (s3.heap.push { cls := .type "dict", data := .dict #[] }) scope.names } : Shared) = s4 at I4 ⊢
  have st4 : tn 0 s4.heap := T.keep _ _ _ st3 fun b _ o e => by rw [← hs4]; exact pushCells_keeps _ _ _ _ (Heap.get?_push_of_some _ e)
  generalize hY : X.blk s3 (upd H2 D (.lst [])) scope (compEnvC scope cl s3.heap.objs.size X.env) fp = Y at I4 pg pt pe pr
  have y1 : Y.prog = X.prog := by rw [← hY] <;> rfl
  have y2 : Y.w = X.w := by rw [← hY] <;> rfl
  have y3 : Y.K = X.K := by rw [← hY] <;> rfl
  have y4 : Y.A = X.A := by rw [← hY] <;> rfl
  have y5 : Y.calm = true := by rw [← hY]; exact hc
  have y6 : Y.xe = fun _ _ => False := by rw [← hY] <;> rfl
  have y7 : Y.env = compEnvC scope cl s3.heap.objs.size X.env := by rw [← hY] <;> rfl
  have stat : ∀ {σ' : L2.St} {H' : Hp} {s' : Shared}, Inv Y [] σ' H' s' → (∀ b ∈ fp, H' b = none) → ∀ b ∈ fp, FpOk Y [] H' b := by
    rw [← hY]
    exact fun {σ' H' s'} I' hn b hb => ⟨hn b hb, (I'.ok.exf b hb).1, I'.ok.exfs b hb, .inl hb, fun x c e => (I'.ok.exf b hb).2 x c e, fun p hp => nomatch (show p ∈ ([] : List (Addr × Obj)) ++ [] from hp)⟩
  have home : ∀ {σ' : L2.St} {H' : Hp} {s' : Shared}, Inv Y [] σ' H' s' → Q (.ref D) H' → compPost (model X.prog X.w) X.A X.xe none (EP X pins σ Q) (.ref D) s3.heap.objs.size (.ok .next) s' := by
    rw [← hY]
    intro σ' H' s' I' qq
    have I7 : Inv X pins σ H' s' := I3.call' (ch := fp) I'.os I'.base I'.hok I'.bare fun b hb => ⟨(f3 b hb).1.2.2.2.1, (f3 b hb).1.2.1, (f3 b hb).1.2.2.2.2.1, (f3 b hb).1.2.2.2.2.2⟩
    obtain ⟨m, hn, _⟩ := I'.loc
    obtain ⟨g0, g1, g2, g3, g4, g5⟩ := I3.fpOk (H' := H') (Nat.le_refl _) I'.free
    exact ⟨m, hn, fun h'' sb => ⟨.ref D, H', I7.turned (t' := s'.toks) (fun b o hb e => (sb.2 b hb).trans e) g0 g1 g3 g4 g5, rfl, qq⟩⟩
  rw [← y7]
  have loop : codeAny (model X.prog X.w) X.A (.compLoop (.ListComp elt (⟨tg, iter, ifs, 0⟩ :: more) scope pos) 0 (.ref it) (.ref D) Y.env) (compPost (model X.prog X.w) X.A X.xe none (EP X pins σ Q) (.ref D) s3.heap.objs.size) s4 := by
    refine cloop_any (gens := ⟨tg, iter, ifs, 0⟩ :: more) rfl pr.nxt (fun n s' => ∃ i H', Inv Y [] (wipe σ (own.map (·.2))) H' s' ∧ tn i s'.heap ∧ (∀ b ∈ fp, H' b = none) ∧ W i n H') ?_ m0 ⟨0, _, I4, st4, nfp, w0⟩
    rintro n s5 ⟨i, H5, I5, st5, n5, w5⟩
    unfold CTurn
    rcases turn i n H5 w5 with ⟨hstop, qq⟩ | ⟨hgo, N2, hN2, step⟩
    · have run := T.done Y y1 y2 y3 y5 i [] s5 _ H5 (fun _ _ => False) I5 (stat I5 n5) st5 hstop
      rw [y4] at run
      refine thnF run fun r' s6 ⟨e6, I6⟩ => ?_
      subst e6
      exact home I6 qq
    · have run := T.item Y y1 y2 y3 y5 i [] s5 _ H5 (fun _ _ => False) I5 (stat I5 n5) st5 hgo
      rw [y4] at run
      refine thnF run fun r' s6 ⟨u, e6, h6⟩ => ?_
      subst e6
      refine thnF h6 fun _ s7 ⟨x, H7, I7, r7, y7', st7, n7⟩ => ?_
      have I7' := I7.pinned (stat I7 n7) (T.obj _ _ st7)
      have rg := pg.run ([] ++ pinsAt fp s7.heap) s7 _ H7 x u _ I7' r7 (step x H7 y7')
      rw [y6, y4, y1, y2] at rg
      refine thnF rg fun _ s8 ⟨σ8, H8, I8, hw8, q8⟩ => ?_
      have rt := pt.run ([] ++ pinsAt fp s7.heap) s8 σ8 H8 _ I8 q8
      rw [y6, y4, y1, y2] at rt
      refine thnF rt fun b s9 ⟨H9, I9, q9⟩ => ?_
      have back : ∀ {σ' : L2.St} {H' : Hp} {s' : Shared}, Inv Y ([] ++ pinsAt fp s7.heap) σ' H' s' → σ8.length = σ'.length → (∀ (j : Nat) v, (wipe σ8 (topV r))[j]? = some (some v) → σ'[j]? = some (some v)) → N2 H' → ∃ m, m < n ∧ ∃ j H', Inv Y [] (wipe σ (own.map (·.2))) H' s' ∧ tn j s'.heap ∧ (∀ b ∈ fp, H' b = none) ∧ W j m H' := by
        intro σ' H' s' I' hl hk nx
        obtain ⟨m', hm, w'⟩ := hN2 H' nx
        have pin : ∀ b ∈ fp, ∀ o, s7.heap.get? b = some o → s'.heap.get? b = some o ∧ H' b = none := fun b hb o e =>
          have z := I'.pin (b, o) (List.mem_append_right _ (List.mem_append_right _ (mem_pinsAt hb e)))
          ⟨z.1, z.2.1⟩
        refine ⟨m', hm, i + 1, H', (I'.unpinned (pins := [])).weak ?_ (fun j v e => ?_), T.keep _ _ _ st7 fun b hb o e => (pin b hb o e).1, fun b hb => ?_, w'⟩
        · rw [← hl, ← hw8, wipe_length]
        · rw [← hw8] at e
          obtain ⟨e1, e2⟩ := wipe_some e
          refine hk j v ?_
          rw [wipe_out fun z => e2 (hv j z)]
          exact e1
        · obtain ⟨o, e, _⟩ := T.obj _ _ st7 b hb
          exact (pin b hb o e).2
      cases b with
      | false => exact back I9 rfl (fun j v e => (wipe_some e).1) (by simpa using q9)
      | true =>
        have z := body_ok (gens := ⟨tg, iter, ifs, 0⟩ :: more) (scope := scope) (pos := pos) y5 y6 pe pr ([] ++ pinsAt fp s7.heap) σ8 H9 s9 N2 _ (notedBy (model X.prog X.w) X.A Y.env fun e s' => compPost (model X.prog X.w) X.A X.xe none (EP X pins σ Q) (.ref D) s3.heap.objs.size (.error e) s') I9 (by simpa using q9) fun σ' H' s' I' hl hk nx => back I' hl hk nx
        rw [y1, y2, y4] at z
        exact z
  exact codeAny_compStart_list loop (T.self X.A 0 _ _ _ st4 loop)
end
end Cn

/-! dict comprehensions whose keys are tuples -/
namespace Cn
open PySem PySem.Spec PyProof.Rows L2
theorem d_dictSetT {X : Cx} {pins : List (Addr × Obj)} {σ : L2.St} {H : Hp} {s : Shared} {E : Value → Shared → Prop} {D c : Addr} {kvs : List (List Key × V)} {k : List Key} {v : V} {u r : Value} {Q : Unit → Shared → Prop} (hu : X.A.units < cLine) (I : Inv X pins σ H s) (hD : H D = some (.dT kvs)) (hc : H c = some (.tup (k.map kV))) (hz : kvs.length < sizeLine)
    (ry : RelV (.ref c) u) (rv : RelV v r) (h : ∀ s', Inv X pins σ (upd H D (.dT (putK kvs k v))) s' → Q () s') : wpAny (model X.prog X.w) X.A (dictSet D u r) Q E s := by
  obtain rfl : u = Value.ref c := ry
  obtain ⟨z, hd, xs, rel, dd⟩ := dt_of I.hok hD
  have l1 : xs.length ≤ sizeLine := by rw [← Paired.length rel]; exact z
  have l2 : (putK kvs k v).length ≤ sizeLine := by have := length_putK kvs k v; omega
  refine wpAny_dictSet_heap (hsz := l1) (show (tupleKind (mixKind X.prog X.w)).room X.A from hu) (key_of I.hok hc) dd fun h' dd' hs => h _ ?_
  obtain ⟨o, es, ep, e1, e2, e3, e4, _, e5⟩ := dd'
  refine d_write I (by rw [hD]; exact True.intro) hs ⟨o, e1⟩ ⟨l2, hd, _, (rel.put k hc rv).keeps fun b ys eb => ?_, o, es, ep, e1, e2, e3, e4, e5⟩
  rw [upd_ne (ne_of eb hD (fun z => nomatch z))]
  exact eb
/-- {k: v for tg in iter if ..}, k a tuple -/
def tDcT (wi : TI) (g : TG) (tt : TT) (tk tv : TE) (vs : List Nat) : TE := fun σ H Q => wi σ H fun J H1 => ∀ D, H1 D = none → ∃ W : Nat → Nat → Hp → Prop, (∃ m, W 0 m (upd H1 D (.dT []))) ∧ ∀ i m H, W i m H → (J.stop i H ∧ Q (.ref D) H) ∨ (J.go i H ∧ ∃ N2 : Hp → Prop, (∀ H', N2 H' → ∃ m', m' < m ∧ W (i + 1) m' H') ∧
  ∀ x H', J.yld i H x H' → g x (wipe σ vs) H' fun σ2 H2 => wipe σ2 vs = wipe σ vs ∧ tt σ2 H2 fun b H3 => if b = true then tk σ2 H3 fun y H4 => tv σ2 H4 fun z H5 => ∃ (kvs : List (List Key × V)) (k : List Key) (c : Addr), y = .ref c ∧ H5 c = some (.tup (k.map kV)) ∧ H5 D = some (.dT kvs) ∧ kvs.length < sizeLine ∧ N2 (upd H5 D (.dT (putK kvs k z))) else N2 H3)
section
variable {X : Cx}
theorem dcT_run {kx vx tg iter : Expr} {ifs : List Expr} {scope : Scope} {own : List (Str × Nat)} {pos pz : Pos} {wi : TI} {g : TG} {tt : TT} {tk tv : TE} {pins : List (Addr × Obj)} {s : Shared} {σ : L2.St} {H : Hp} {Q : VK} {use : Option (Value → Sem Unit)} {Z : Value → Shared → Prop} (hu : X.A.units < cLine) (hc : X.calm = true) (hN : X.N.Nodup) (hi : PI X tg iter wi) (ok : BlkOk X.N X.env.scope scope own)
    (hg : AtBlk X scope fun Y => PG Y tg g) (ht : AtBlk X scope fun Y => PTs Y ifs tt) (hk : AtBlk X scope fun Y => PE Y kx tk) (he : AtBlk X scope fun Y => PE Y vx tv) (hs : ∀ x, foldedSetIterable iter X.env x = pure x) (I : Inv X pins σ H s) (h : tDcT wi g tt tk tv (own.map (·.2)) σ H Q)
    (hz : ∀ (D C : Addr) (s' : Shared) (m : Str → Option Value) (H' : Hp), Inv X pins σ H' s' → Q (.ref D) H' → s'.heap.Ns C m → FpOk X pins H' C → compPost (model X.prog X.w) X.A X.xe use Z (.ref D) C (.ok .next) s') :
    wpAny (model X.prog X.w) X.A (comprehension (.DictComp kx vx [⟨tg, iter, ifs, 0⟩] scope pos) scope X.env pz newDict false (eval iter X.env) use) Z X.xe s := by
  have free : ∀ y ∈ scope.names, y.2 = .free → ∃ c, X.env.cells.lookup y.1 = some c := fun y hy e => I.ok.has _ ((ok.free y hy e).imp id id)
  refine wpAny_comprehension_free (use := use) rfl hs (closure_ok free) ok.kind (fun y hy e => by rw [ok.uniq y hy, e]) (thn (hi.run pins s σ H _ I h) fun xv s1 hx => thn hx fun itv s2 h2 => ?_)
  obtain ⟨it, fp, tn, J, H2, e, I2, T, st2, f2, q⟩ := h2
  subst e
  refine wpAny_newObj_type (newEnv_comp ?_)
  generalize hD : s2.heap.objs.size = D
  obtain ⟨W, ⟨m0, w0⟩, turn⟩ := q D (I2.hok.fresh (Nat.le_of_eq hD))
  generalize hs3 : ({ s2 with heap := s2.heap.push { cls := .type "dict", data := .dict #[] } } : Shared) = s3
  have h3 : s3.heap = s2.heap.push { cls := .type "dict", data := .dict #[] } := by rw [← hs3]
  have I3 : Inv X pins σ (upd H2 D (.dT [])) s3 := by
    rw [← hs3]
    refine I2.laid (t' := s2.toks) (fun b o e => Heap.get?_push_of_some _ e) (Nat.le_of_eq hD) ?_
    rw [← hD]
    exact dt_empty s2.heap I2.big
  have f3 : ∀ b ∈ fp, FpOk X pins (upd H2 D (.dT [])) b ∧ b < s3.heap.objs.size := fun b hb => by
    obtain ⟨o, eo, _⟩ := T.obj _ _ st2 b hb
    have lt := Heap.lt_size eo
    exact ⟨⟨by rw [upd_ne (by rw [← hD]; exact Nat.ne_of_lt lt)]; exact (f2 b hb).1, (f2 b hb).2⟩, by rw [h3, Heap.size_push]; exact Nat.lt_succ_of_lt lt⟩
  have st3 : tn 0 s3.heap := T.keep _ _ _ st2 fun b _ o e => by rw [h3]; exact Heap.get?_push_of_some _ e
  have I4 := block_start I3 ok hN f3
  generalize hcl : cellsFrom (s3.heap.objs.size + 1) scope.names (cloFrom X.env.cells scope.names []) = cl at I4
  have pg := hg s3 (upd H2 D (.dT [])) s3.heap.objs.size cl fp
  have pt := ht s3 (upd H2 D (.dT [])) s3.heap.objs.size cl fp
  have pk := hk s3 (upd H2 D (.dT [])) s3.heap.objs.size cl fp
  have pe := he s3 (upd H2 D (.dT [])) s3.heap.objs.size cl fp
  have nfp : ∀ b ∈ fp, (upd H2 D (.dT [])) b = none := fun b hb => (f3 b hb).1.1
  show codeAny (model X.prog X.w) X.A (.compStart (.DictComp kx vx [⟨tg, iter, ifs, 0⟩] scope pos) 0 (.ref it) (.ref D) (compEnvC scope cl s3.heap.objs.size X.env)) (compPost (model X.prog X.w) X.A X.xe use Z (.ref D) s3.heap.objs.size) { s3 with heap := pushCells (s3.heap.push { cls := .type "dict", data := .dict #[] }) scope.names }
  generalize hs4 : ({ s3 with heap := pushCells (s3.heap.push { cls := .type "dict", data := .dict #[] }) scope.names } : Shared) = s4 at I4 ⊢
  have st4 : tn 0 s4.heap := T.keep _ _ _ st3 fun b _ o e => by rw [← hs4]; exact pushCells_keeps _ _ _ _ (Heap.get?_push_of_some _ e)
  generalize hY : X.blk s3 (upd H2 D (.dT [])) scope (compEnvC scope cl s3.heap.objs.size X.env) fp = Y at I4 pg pt pk pe
  have y1 : Y.prog = X.prog := by rw [← hY] <;> rfl
  have y2 : Y.w = X.w := by rw [← hY] <;> rfl
  have y3 : Y.K = X.K := by rw [← hY] <;> rfl
  have y4 : Y.A = X.A := by rw [← hY] <;> rfl
  have y5 : Y.calm = true := by rw [← hY]; exact hc
  have y6 : Y.xe = fun _ _ => False := by rw [← hY] <;> rfl
  have y7 : Y.env = compEnvC scope cl s3.heap.objs.size X.env := by rw [← hY] <;> rfl
  have stat : ∀ {σ' : L2.St} {H' : Hp} {s' : Shared}, Inv Y [] σ' H' s' → (∀ b ∈ fp, H' b = none) → ∀ b ∈ fp, FpOk Y [] H' b := by
    rw [← hY]
    exact fun {σ' H' s'} I' hn b hb => ⟨hn b hb, (I'.ok.exf b hb).1, I'.ok.exfs b hb, .inl hb, fun x c e => (I'.ok.exf b hb).2 x c e, fun p hp => nomatch (show p ∈ ([] : List (Addr × Obj)) ++ [] from hp)⟩
  have home : ∀ {σ' : L2.St} {H' : Hp} {s' : Shared}, Inv Y [] σ' H' s' → Q (.ref D) H' → compPost (model X.prog X.w) X.A X.xe use Z (.ref D) s3.heap.objs.size (.ok .next) s' := by
    rw [← hY]
    intro σ' H' s' I' qq
    have I7 : Inv X pins σ H' s' := I3.call' (ch := fp) I'.os I'.base I'.hok I'.bare fun b hb => ⟨(f3 b hb).1.2.2.2.1, (f3 b hb).1.2.1, (f3 b hb).1.2.2.2.2.1, (f3 b hb).1.2.2.2.2.2⟩
    obtain ⟨m, hn, _⟩ := I'.loc
    exact hz D _ s' m H' I7 qq hn (I3.fpOk (H' := H') (Nat.le_refl _) I'.free)
  rw [← y7]
  have loop : codeAny (model X.prog X.w) X.A (.compLoop (.DictComp kx vx [⟨tg, iter, ifs, 0⟩] scope pos) 0 (.ref it) (.ref D) Y.env) (compPost (model X.prog X.w) X.A X.xe use Z (.ref D) s3.heap.objs.size) s4 := by
    refine compLoop_anyD (fun n s' => ∃ i H', Inv Y [] (wipe σ (own.map (·.2))) H' s' ∧ tn i s'.heap ∧ (∀ b ∈ fp, H' b = none) ∧ W i n H') ?_ m0 ⟨0, _, I4, st4, nfp, w0⟩
    rintro n s5 ⟨i, H5, I5, st5, n5, w5⟩
    rcases turn i n H5 w5 with ⟨hstop, qq⟩ | ⟨hgo, N2, hN2, step⟩
    · have run := T.done Y y1 y2 y3 y5 i [] s5 _ H5 (fun _ _ => False) I5 (stat I5 n5) st5 hstop
      rw [y4] at run
      refine thnF run fun r' s6 ⟨e6, I6⟩ => ?_
      subst e6
      exact home I6 qq
    · have run := T.item Y y1 y2 y3 y5 i [] s5 _ H5 (fun _ _ => False) I5 (stat I5 n5) st5 hgo
      rw [y4] at run
      refine thnF run fun r' s6 ⟨u, e6, h6⟩ => ?_
      subst e6
      refine thnF h6 fun _ s7 ⟨x, H7, I7, r7, y7', st7, n7⟩ => ?_
      have I7' := I7.pinned (stat I7 n7) (T.obj _ _ st7)
      have rg := pg.run ([] ++ pinsAt fp s7.heap) s7 _ H7 x u _ I7' r7 (step x H7 y7')
      rw [y6, y4, y1, y2] at rg
      refine thnF rg fun _ s8 ⟨σ8, H8, I8, hw8, q8⟩ => ?_
      have rt := pt.run ([] ++ pinsAt fp s7.heap) s8 σ8 H8 _ I8 q8
      rw [y6, y4, y1, y2] at rt
      refine thnF rt fun b s9 ⟨H9, I9, q9⟩ => ?_
      have back : ∀ {σ' : L2.St} {H' : Hp} {s' : Shared}, Inv Y ([] ++ pinsAt fp s7.heap) σ' H' s' → σ8 = σ' → N2 H' → ∃ m, m < n ∧ ∃ j H', Inv Y [] (wipe σ (own.map (·.2))) H' s' ∧ tn j s'.heap ∧ (∀ b ∈ fp, H' b = none) ∧ W j m H' := by
        intro σ' H' s' I' hl nx
        subst hl
        obtain ⟨m', hm, w'⟩ := hN2 H' nx
        have pin : ∀ b ∈ fp, ∀ o, s7.heap.get? b = some o → s'.heap.get? b = some o ∧ H' b = none := fun b hb o e =>
          have z := I'.pin (b, o) (List.mem_append_right _ (List.mem_append_right _ (mem_pinsAt hb e)))
          ⟨z.1, z.2.1⟩
        refine ⟨m', hm, i + 1, H', (I'.unpinned (pins := [])).weak ?_ (fun j v e => ?_), T.keep _ _ _ st7 fun b hb o e => (pin b hb o e).1, fun b hb => ?_, w'⟩
        · rw [← hw8, wipe_length]
        · rw [← hw8] at e
          exact (wipe_some e).1
        · obtain ⟨o, e, _⟩ := T.obj _ _ st7 b hb
          exact (pin b hb o e).2
      cases b with
      | false => exact back I9 rfl (by simpa using q9)
      | true =>
        have rk := pk.run ([] ++ pinsAt fp s7.heap) s9 σ8 H9 _ I9 (show tk σ8 H9 _ by simpa using q9)
        rw [y6, y4, y1, y2] at rk
        refine thnF rk fun u1 s10 ⟨yk, H10, I10, r10, q10⟩ => ?_
        have rv := pe.run ([] ++ pinsAt fp s7.heap) s10 σ8 H10 _ I10 q10
        rw [y6, y4, y1, y2] at rv
        refine thnF rv fun u2 s11 ⟨yv, H11, I11, r11, kvs, k, c, ec, hc11, hD11, hz11, nx⟩ => ?_
        subst ec
        have z := d_dictSetT (Q := fun _ s' => ∃ m, m < n ∧ ∃ j H', Inv Y [] (wipe σ (own.map (·.2))) H' s' ∧ tn j s'.heap ∧ (∀ b ∈ fp, H' b = none) ∧ W j m H') (E := fun _ _ => False) (by rw [y4]; exact hu) I11 hD11 hc11 hz11 r10 r11 fun s12 I12 => back I12 rfl nx
        rw [y1, y2, y4] at z
        exact thnF z fun _ _ q => q
  exact codeAny_compStart_dict loop (T.self X.A 0 _ _ _ st4 loop)
theorem pe_dcT {kx vx tg iter : Expr} {ifs : List Expr} {scope : Scope} {own : List (Str × Nat)} {pos : Pos} {wi : TI} {g : TG} {tt : TT} {tk tv : TE} (hu : X.A.units < cLine) (hc : X.calm = true) (hN : X.N.Nodup) (hi : PI X tg iter wi) (ok : BlkOk X.N X.env.scope scope own)
    (hg : AtBlk X scope fun Y => PG Y tg g) (ht : AtBlk X scope fun Y => PTs Y ifs tt) (hk : AtBlk X scope fun Y => PE Y kx tk) (he : AtBlk X scope fun Y => PE Y vx tv) (hs : ∀ x, foldedSetIterable iter X.env x = pure x := by intro _; rfl) :
    PE X (.DictComp kx vx [⟨tg, iter, ifs, 0⟩] scope pos) (tDcT wi g tt tk tv (own.map (·.2))) := by
  refine ⟨fun pins s σ H Q I h => ?_⟩
  rw [arm_eval_DictComp]
  refine dcT_run hu hc hN hi ok hg ht hk he hs I h ?_
  intro D C s' m H' I' qq hn ⟨_, g1, g2, g3, g4, g5⟩
  exact ⟨m, hn, fun h'' sb => ⟨.ref D, H', I'.turned (t' := s'.toks) (fun b o hb e => (sb.2 b hb).trans e) ‹_› g1 g3 g4 g5, rfl, qq⟩⟩
/-- name = {..} on one line, the name a local: name and comprehension change places -/
theorem sw_dict {kx vx : Expr} {gens : List Comprehension} {scope : Scope} {pos pn : Pos} {x : Str} {l : Nat} {env : Env} (h1 : env.scope.kind = .function) (h2 : env.scope.names.lookup x = some .local) (h3 : (pn.line == pos.line) = true) (h4 : (scope.names.any fun (n, k) => n == x && (k == .local || k == .cell)) = false) :
    swapsWith (.DictComp kx vx gens scope pos) (some (.Name x pn)) l env = pure true := by
  have e1 : env.kindOf x = some .local := h2
  have e2 : env.blockKind = .function := by
    unfold Env.blockKind
    rw [h1]
    rfl
  unfold swapsWith
  simp only [e1, e2, h4, h3, Expr.pos]
  rfl
theorem ps_setDcT {i : Nat} {x : Str} {pn sp : Pos} {kx vx tg iter : Expr} {ifs : List Expr} {scope : Scope} {own : List (Str × Nat)} {pos : Pos} {wi : TI} {g : TG} {tt : TT} {tk tv : TE} (hu : X.A.units < cLine) (hc : X.calm = true) (hN : X.N.Nodup) (hx : X.N[i]? = some x) (hl : X.env.scope.names.lookup x = some .local)
    (hw : swapsWith (.DictComp kx vx [⟨tg, iter, ifs, 0⟩] scope pos) (some (.Name x pn)) sp.line X.env = pure true) (hi : PI X tg iter wi) (ok : BlkOk X.N X.env.scope scope own)
    (hg : AtBlk X scope fun Y => PG Y tg g) (ht : AtBlk X scope fun Y => PTs Y ifs tt) (hk : AtBlk X scope fun Y => PE Y kx tk) (he : AtBlk X scope fun Y => PE Y vx tv) (hs : ∀ x, foldedSetIterable iter X.env x = pure x := by intro _; rfl) :
    PS X (.Assign [.Name x pn] (.DictComp kx vx [⟨tg, iter, ifs, 0⟩] scope pos) sp) (tAsg (tDcT wi g tt tk tv (own.map (·.2))) (gName i)) := by
  refine ⟨fun pins s σ H D I h => ?_⟩
  rw [exec_Assign_Name_used _ _ _ _ hw]
  refine wpAny_bind (wpAny_standAt (wpAny_bind ?_))
  have h' : tDcT wi g tt tk tv (own.map (·.2)) σ H (fun y H1 => gName i y σ H1 D.nx) := h
  have run : wpAny (model X.prog X.w) X.A (comprehension (.DictComp kx vx [⟨tg, iter, ifs, 0⟩] scope pos) scope X.env (firstIterPos [⟨tg, iter, ifs, 0⟩] pos) newDict false (eval iter X.env) (some (assign (.Name x pn) X.env))) (fun _ s' => SP X pins D .next s') X.xe s := by
    refine dcT_run hu hc hN hi ok hg ht hk he hs I h' ?_
    intro L C s' m H' I' qq hn ⟨_, g1, g2, g3, g4, g5⟩
    show wpAny _ _ (assign (.Name x pn) X.env (.ref L)) _ _ _
    refine wpAny_assign_Name (store_ok2 (v := V.ref L) I' hN hx (.inl hl) rfl ?_ (.inr hl))
    intro s2 I2 ⟨a, sb, ha⟩
    have away : C ≠ a := by
      intro e
      rcases ha with z | z
      · exact g1 (e.trans z)
      · exact g4 x a z e.symm
    exact ⟨m, hn.sameBut sb away, fun h3 sb3 => ⟨_, H', I2.turned (t' := s2.toks) (fun b o hb e => (sb3.2 b hb).trans e) ‹_› g1 g3 g4 g5, qq⟩⟩
  exact wpAny_bind (thn run fun _ _ q => wpAny_pure (wpAny_pure q))
end
end Cn

/-! range(lo, hi): loops, comprehensions; sums -/
namespace Dx
open PySem PySem.Spec PyProof.Rows L2 Evl
section
variable {F : Fm} {K : PySem.W.Frag} {σ : L2.St} {B0 H0 B H : Hp} {D : Ends} {tb tz : TS} {tl te : TE} {tt : TT} {j : Nat} {vsN : List Nat}
theorem dds2 {H : Hp} {vs : List V} {i k : Int} (h : DdAll K H vs [.int i, .int k]) : vs = [.int i, .int k] := by
  have := ddAll_ints (k := [i, k]) h
  exact this
theorem qd_forR2 {ta : TA} {lo n : Int} (a : At F B0 H0 B H) (h : EDs F K ta σ B [.int lo, .int n]) (hn : (-4611686018427387904 ≤ lo ∧ lo < 4611686018427387904) ∧ -4611686018427387904 ≤ n ∧ n < 4611686018427387904) (I : Nat → L2.St → Hp → Prop) (h0 : ∀ B1, Ex B B1 → I 0 σ B1)
    (hs : ∀ Bb (i : Nat) σ' B1 H1, Ex B Bb → lo + (i : Int) < n → Ex Bb B1 → At F B0 H0 B1 H1 → I i σ' B1 → tb { D with nx := Lp F B0 H0 Bb (I (i + 1)), ct := Lp F B0 H0 Bb (I (i + 1)), bk := tz D } (σ'.set j (some (.int (lo + (i : Int))))) H1)
    (hd : ∀ σ' B1 H1, Ex B B1 → At F B0 H0 B1 H1 → I (n - lo).toNat σ' B1 → tz D σ' H1) : tSeq (tFor (iRng2 ta) (gName j) tb) tz D σ H := by
  refine h B (Ex.refl B) H a.j _ fun vs B1 H1 s1 j1 p => ?_
  have a1 := a.next s1 j1
  obtain rfl := dds2 p
  exact ⟨lo, n, rfl, ⟨by omega, by omega, by omega, by omega⟩, for_range (lo := lo) (n := (n - lo).toNat) (D := { D with nx := tz D }) (fun i => Lp F B0 H0 B1 (I i)) ⟨B1, Ex.refl B1, a1, h0 B1 s1.bb⟩ (fun i σ' H' hx ⟨B', e, a', hi⟩ => hs B1 i σ' B' H' s1.bb (by omega) e a' hi) (fun σ' H' ⟨B', e, a', hi⟩ => hd σ' B' H' (s1.bb.trans e) a' hi)⟩
/-- [te for i in range(lo, n) if tt] -/
theorem ed_lcR2 {ta : TA} {lo n : Int} (p : Nat → Bool) (g : Nat → PyData) (h : EDs F K ta σ B [.int lo, .int n]) (hn : (-4611686018427387904 ≤ lo ∧ lo < 4611686018427387904) ∧ -4611686018427387904 ≤ n ∧ n < 4611686018427387904 ∧ n - lo ≤ 16777216) (hw : ∀ x, wipe ((wipe σ vsN).set j (some x)) vsN = wipe σ vsN)
    (ht : ∀ (i : Nat) B1, lo + (i : Int) < n → Ex B B1 → ETt F tt ((wipe σ vsN).set j (some (.int (lo + (i : Int))))) B1 (p i))
    (he : ∀ (i : Nat) B1, lo + (i : Int) < n → p i = true → Ex B B1 → ED F K te ((wipe σ vsN).set j (some (.int (lo + (i : Int))))) B1 (g i)) :
    ED F K (tLc (iRng2 ta) (gName j) tt te vsN) σ B (.list (((List.range (n - lo).toNat).filter p).map g)) := fun B0 e0 H0 k0 Q q => by
  refine h B0 e0 H0 k0 _ fun vs B1 H1 s1 k1 pv => ?_
  obtain rfl := dds2 pv
  have le : ∀ i, (((List.range i).filter p).map g).length ≤ i := fun i => by
    rw [List.length_map]
    exact Nat.le_trans (List.length_filter_le _ _) (Nat.le_of_eq List.length_range)
  refine ⟨lo, n, rfl, ⟨by omega, by omega, by omega, by omega⟩, fun Dl hD => lc_range (lo := lo) (n := (n - lo).toNat) (fun i => Cq F K B1 H1 Dl (((List.range i).filter p).map g)) (cq_start k1 hD) (fun i H' hi c => ⟨hw _, ?_⟩) (fun H' c => ?_)⟩
  · have hi' : lo + (i : Int) < n := by omega
    rw [List.range_succ, filter_snoc]
    exact cq_turn k1 hD (Nat.lt_of_le_of_lt (le i) (by omega)) c (fun B' e => ht i B' hi' ((e0.trans s1.bb).trans e)) (fun hp B' e => he i B' hi' hp ((e0.trans s1.bb).trans e))
  · obtain ⟨B2, s2, k2, g2⟩ := cq_done k1 hD (Nat.le_trans (le _) (by omega)) c
    exact q _ B2 H' (s1.trans s2) k2 g2
/-- sum([..]) -/
theorem rc_sum {ns : List Int} : RDc F K (rSum K) B [.list (ns.map .int)] (.int ns.sum) := rc_of fun H u hu => by
  obtain ⟨a, xs, rfl, h1, l1, g1⟩ := dd_lst hu
  exact ⟨.int ns.sum, fun _ => .int _, fun Q q => ⟨a, ns, rfl, by rw [← ddAll_ints g1]; exact sq_of h1, q⟩⟩
theorem cr_sumK {X : Cx} (K : PySem.W.Frag) (hc : X.calm = true) (hK : X.K = K := by rfl) : CallR X (.builtin "sum") (rSum K) := by subst hK; exact cr_sum hc
end
end Dx

/-! ranges that are kept under a name; comprehensions of several clauses over ranges, as data -/
namespace Dx
open PySem PySem.Spec PyProof.Rows L2 Evl
theorem bt_range : bootBuiltins "range" = some (.type "range") := by decide +kernel
/-- range(n), as a value -/
def rRng1 : List V → Hp → VK → Prop := fun vs H Q => ∃ j, vs = [V.int j] ∧ ∀ p, H p = none → Q (.ref p) (upd H p (.rng 0 j))
theorem call_rng1 {X : Cx} : CallR X (.type "range") rRng1 := by
  rintro pins s σ H vs us Q I r ⟨j, rfl, q⟩
  cases r with
  | cons a t =>
    cases t
    obtain ⟨tk, rfl⟩ := a
    refine call_range_1 ⟨.ref s.heap.objs.size, upd H s.heap.objs.size (.rng 0 j), I.laid (t' := s.toks + 2) (fun _ _ e => Heap.get?_push_of_some _ e) (Nat.le_refl _) ⟨_, _, _, Heap.get?_push_size _ rfl⟩, rfl, q _ (I.hok.fresh (Nat.le_refl _))⟩
def iRngV (tl : TE) : TI := fun σ H R => tl σ H fun x H1 => ∃ a lo hi, x = .ref a ∧ H1 a = some (.rng lo hi) ∧ (-(2 ^ 62) ≤ lo ∧ lo < 2 ^ 62 ∧ -(2 ^ 62) ≤ hi ∧ hi < 2 ^ 62) ∧ R (Itr lo (hi - lo).toNat) H1
theorem pi_rngV {X : Cx} {tg l : Expr} {tl : TE} (hl : PE X l tl) : PI X tg l (iRngV tl) := by
  refine ⟨fun pins s σ H R I h => thn (hl.run pins s σ H _ I h) ?_⟩
  rintro v s1 ⟨x, H1, I1, r1, a, lo, hi, rfl, ha, ⟨b1, b2, b3, b4⟩, q⟩
  cases r1
  obtain ⟨t1, t2, t3, ho⟩ := I1.hok a _ ha
  refine wpAny_pyIter_range (show IsRange s1.heap a lo hi 1 t1 t2 t3 from ho) (small_one b1 b2 b3 b4) ?_
  refine ⟨s1.heap.objs.size, [s1.heap.objs.size], _, _, H1, rfl, I1.kept (t' := s1.toks) fun _ _ e => Heap.get?_push_of_some _ e, turn_range _ lo (hi - lo).toNat, ?_, fun b hb => ?_, q⟩
  · have z2 : (((hi - lo).toNat : Nat) : Int) - ((0 : Nat) : Int) = Builtin.Range.rangeSize lo hi 1 := by rw [rangeSize_one]; split <;> omega
    show IsRangeIter _ _ (lo + ((0 : Nat) : Int) * 1) ((((hi - lo).toNat : Nat) : Int) - ((0 : Nat) : Int)) 1
    rw [z2, show lo + ((0 : Nat) : Int) * 1 = lo by simp]
    exact Heap.get?_push_size _ rfl
  · obtain rfl : b = s1.heap.objs.size := by simpa using hb
    exact I1.fpOk (Nat.le_refl _) (I1.hok.fresh (Nat.le_refl _))
/-- a range that stands -/
def RngV (n : Int) : PV := fun v B => ∃ a, v = .ref a ∧ B a = some (.rng 0 n)
theorem upc_rng {n : Int} : Upc (RngV n) := fun _ _ _ e ⟨a, h, g⟩ => ⟨a, h, e _ _ g⟩
theorem ev_rng1 {F : Fm} {K : PySem.W.Frag} {σ : L2.St} {B : Hp} {te : TE} {n : Int} (h : ED F K te σ B (.int n)) : EV F (tCB rRng1 (tCons te tNil)) σ B (RngV n) := ev_cb (eds_cons h eds_nil) fun B1 e0 H us jj hu Q q => by
  have hu' : us = [V.int n] := ddAll_ints (k := [n]) hu
  exact ⟨n, hu', fun p hp => q _ _ _ (Step.alloc jj.e hp) (jj.alloc hp) ⟨p, rfl, upd_same⟩⟩
/-! ### the clauses of a comprehension, as data -/
open Cn
/-- the turns of a range -/
theorem w_rng {lo : Int} {n : Nat} {H1 : Hp} {Qd : Hp → Prop} {body : V → Hp → (Hp → Prop) → Prop} (I : Nat → Hp → Prop) (h0 : I 0 H1) (hs : ∀ i H, i < n → I i H → body (.int (lo + (i : Nat))) H (I (i + 1))) (hd : ∀ H, I n H → Qd H) :
    ∃ W : Nat → Nat → Hp → Prop, (∃ m, W 0 m H1) ∧ ∀ i m H, W i m H → ((Itr lo n).stop i H ∧ Qd H) ∨ ((Itr lo n).go i H ∧ ∃ N2 : Hp → Prop, (∀ H', N2 H' → ∃ m', m' < m ∧ W (i + 1) m' H') ∧ ∀ x H', (Itr lo n).yld i H x H' → body x H' N2) := by
  refine ⟨fun i m H => m + i = n ∧ I i H, ⟨n, rfl, h0⟩, ?_⟩
  rintro i m H ⟨e, p⟩
  rcases Nat.lt_or_ge i n with h | h
  · refine .inr ⟨h, I (i + 1), fun H' p' => ⟨n - (i + 1), by omega, by omega, p'⟩, ?_⟩
    rintro x H' ⟨e1, e2⟩
    rw [e1, e2]
    exact hs i H h p
  · refine .inl ⟨h, hd H ?_⟩
    obtain rfl : i = n := by omega
    exact p
section
variable {F : Fm} {K : PySem.W.Frag} {σ : L2.St} {te : TE} {r : List Clz} {ds : List PyData} {d : PyData}
/-- what the clauses r put to the list at D -/
def InP (F : Fm) (K : PySem.W.Frag) (te : TE) (r : List Clz) (σ : L2.St) (Bz : Hp) (ds : List PyData) : Prop := ∀ (B1 H1 : Hp) (D : Addr), Ex Bz B1 → Ok F B1 H1 → H1 D = none → ∀ (acc0 : List PyData) (H' : Hp), Cq F K B1 H1 D acc0 H' → acc0.length + ds.length ≤ 16777216 → ∀ Nx : Hp → Prop, (∀ H'', Cq F K B1 H1 D (acc0 ++ ds) H'' → Nx H'') → lcIn D te r σ H' Nx
theorem in_nil {Bz : Hp} (he : ∀ B', Ex Bz B' → ED F K te σ B' d) : InP F K te [] σ Bz [d] := fun B1 H1 D eB k1 hD acc0 H' c hl Nx q => by
  obtain ⟨B', acc, s, k, hb, hd, ha⟩ := c
  have nm : ¬ F.M D := fun m => (F.lv H1 D k1.j m).ne hD
  have lv : Liv H' D := ⟨_, hd, trivial⟩
  refine he B' (eB.trans s.bb) B' (Ex.refl B') H' k _ fun y B4 H4 s4 k4 g => ⟨acc, s4.keep D _ nm hd, ?_, q _ ?_⟩
  · rw [ha.len, sizeLine_eq]
    have : acc0.length + 1 ≤ 16777216 := hl
    omega
  · exact cq_more hD k1 (s.trans s4) k4 (s4.sep D hb lv) (s4.keep D _ nm hd) (ha.up s4.bb) g
theorem flatMap_len {n : Nat} {g : Nat → List PyData} (i : Nat) (h : i ≤ n) : ((List.range i).flatMap g).length ≤ ((List.range n).flatMap g).length := by
  induction n with
  | zero =>
    obtain rfl : i = 0 := by omega
    exact Nat.le_refl _
  | succ n ih =>
    rcases Nat.lt_or_ge n i with h2 | h2
    · obtain rfl : i = n + 1 := by omega
      exact Nat.le_refl _
    · rw [List.range_succ, List.flatMap_append, List.length_append]
      exact Nat.le_trans (ih h2) (Nat.le_add_right _ _)
theorem flatMap_succ (n : Nat) (g : Nat → List PyData) : (List.range (n + 1)).flatMap g = (List.range n).flatMap g ++ g n := by
  rw [List.range_succ, List.flatMap_append, List.flatMap_cons, List.flatMap_nil, List.append_nil]
/-- for x in range(n) .. -/
theorem in_rng {Bz : Hp} {ta : TA} {n : Int} {j : Nat} {vs : List Nat} {g : Nat → List PyData} (h : ∀ B', Ex Bz B' → EDs F K ta σ B' [.int n]) (hn : -4611686018427387904 ≤ n ∧ n < 4611686018427387904) (hw : ∀ x, wipe ((wipe σ vs).set j (some x)) vs = wipe σ vs)
    (hb : ∀ i : Nat, (i : Int) < n → InP F K te r ((wipe σ vs).set j (some (.int ((i : Nat) : Int)))) Bz (g i)) : InP F K te ((iRng1 ta, gName j, (fun _ H Q => Q true H), vs) :: r) σ Bz ((List.range n.toNat).flatMap g) := fun B1 H1 D eB k1 hD acc0 H' c hl Nx q => by
  obtain ⟨B', acc, s, k, hbd, hd, ha⟩ := c
  have nm : ¬ F.M D := fun m => (F.lv H1 D k1.j m).ne hD
  have lv : Liv H' D := ⟨_, hd, trivial⟩
  refine h B' (eB.trans s.bb) B' (Ex.refl B') H' k _ fun us B2 H2 s2 k2 pv => ?_
  have hu : us = [V.int n] := ddAll_ints (k := [n]) pv
  refine ⟨n, hu, by omega, by omega, w_rng (lo := 0) (n := n.toNat) (fun i H => Cq F K B1 H1 D (acc0 ++ (List.range i).flatMap g) H) ?_ (fun i H hi c => ⟨hw _, ?_⟩) (fun H c => q _ c)⟩
  · rw [List.range_zero, List.flatMap_nil, List.append_nil]
    exact ⟨B2, acc, s.trans s2, k2, s2.sep D hbd lv, s2.keep D _ nm hd, ha.up s2.bb⟩
  · have hl2 := flatMap_len (g := g) (i + 1) (n := n.toNat) hi
    rw [flatMap_succ, List.length_append] at hl2
    show lcIn D te r ((wipe σ vs).set j (some (.int (0 + ((i : Nat) : Int))))) H _
    rw [Int.zero_add, flatMap_succ, ← List.append_assoc]
    exact hb i (by omega) B1 H1 D eB k1 hD _ H c (by rw [List.length_append]; omega) _ fun H'' c' => c'
/-- [te for x in a kept range ..] -/
theorem ed_lcRV {Bz : Hp} {tl : TE} {n : Int} {j : Nat} {vs : List Nat} {g : Nat → List PyData} (h : EV F tl σ Bz (RngV n)) (hn : -4611686018427387904 ≤ n ∧ n < 4611686018427387904) (hw : ∀ x, wipe ((wipe σ vs).set j (some x)) vs = wipe σ vs)
    (hb : ∀ i : Nat, (i : Int) < n → InP F K te r ((wipe σ vs).set j (some (.int ((i : Nat) : Int)))) Bz (g i)) (hz : ((List.range n.toNat).flatMap g).length ≤ 16777216) : ED F K (tLcN (iRngV tl) (gName j) (fun _ H Q => Q true H) r te vs) σ Bz (.list ((List.range n.toNat).flatMap g)) := fun B0 e0 H0 k0 Q q => by
  refine h B0 e0 H0 k0 _ fun v B1 H1 s1 k1 ⟨a, ea, ga⟩ => ?_
  refine ⟨a, 0, n, ea, k1.e _ _ ga, ⟨by omega, by omega, by omega, by omega⟩, fun D hD => ?_⟩
  rw [show (n - 0).toNat = n.toNat by rw [Int.sub_zero]]
  refine w_rng (lo := 0) (n := n.toNat) (fun i H => Cq F K B1 H1 D ((List.range i).flatMap g) H) ?_ (fun i H hi c => ⟨hw _, ?_⟩) (fun H c => ?_)
  · rw [List.range_zero, List.flatMap_nil]
    exact cq_start k1 hD
  · have hl2 := flatMap_len (g := g) (i + 1) (n := n.toNat) hi
    rw [flatMap_succ, List.length_append] at hl2
    show lcIn D te r ((wipe σ vs).set j (some (.int (0 + ((i : Nat) : Int))))) H _
    rw [Int.zero_add, flatMap_succ]
    exact hb i (by omega) B1 H1 D (e0.trans s1.bb) k1 hD _ H c (by omega) _ fun H'' c' => c'
  · obtain ⟨B2, s2, k2, g2⟩ := cq_done k1 hD hz c
    exact q _ B2 H (s1.trans s2) k2 g2
end
end Dx

/-! dict comprehensions over data; turns of lists and tuples -/
namespace Dx
open PySem PySem.Spec PyProof.Rows L2 Evl Cn
section
variable {K : PySem.W.Frag} {a : Addr} {xs : List V} {H1 : Hp} {Qd : Hp → Prop} {body : V → Hp → (Hp → Prop) → Prop}
/-- the turns of a list -/
theorem w_lst (I : Nat → Hp → Prop) (h0 : I 0 H1) (hl : ∀ i H, I i H → SqL K H a xs) (hs : ∀ i x H, xs[i]? = some x → I i H → body x H (I (i + 1))) (hd : ∀ H, I xs.length H → Qd H) :
    ∃ W : Nat → Nat → Hp → Prop, (∃ m, W 0 m H1) ∧ ∀ i m H, W i m H → ((Itl K a).stop i H ∧ Qd H) ∨ ((Itl K a).go i H ∧ ∃ N2 : Hp → Prop, (∀ H', N2 H' → ∃ m', m' < m ∧ W (i + 1) m' H') ∧ ∀ x H', (Itl K a).yld i H x H' → body x H' N2) := by
  refine ⟨fun i m H => m + i = xs.length ∧ I i H, ⟨xs.length, rfl, h0⟩, ?_⟩
  rintro i m H ⟨e, p⟩
  have st := hl i H p
  rcases Nat.lt_or_ge i xs.length with h | h
  · have hx : xs[i]? = some xs[i] := List.getElem?_eq_getElem h
    refine .inr ⟨⟨xs, _, st, hx⟩, I (i + 1), fun H' p' => ⟨xs.length - (i + 1), by omega, by omega, p'⟩, ?_⟩
    rintro x H' ⟨e1, e2⟩
    rw [e1]
    exact hs i x H (e2 xs st) p
  · refine .inl ⟨⟨xs, st, h⟩, hd H ?_⟩
    obtain rfl : i = xs.length := by omega
    exact p
/-- the turns of a tuple -/
theorem w_tup (I : Nat → Hp → Prop) (h0 : I 0 H1) (hl : ∀ i H, I i H → SqT K H a xs) (hs : ∀ i x H, xs[i]? = some x → I i H → body x H (I (i + 1))) (hd : ∀ H, I xs.length H → Qd H) :
    ∃ W : Nat → Nat → Hp → Prop, (∃ m, W 0 m H1) ∧ ∀ i m H, W i m H → ((Itt K a).stop i H ∧ Qd H) ∨ ((Itt K a).go i H ∧ ∃ N2 : Hp → Prop, (∀ H', N2 H' → ∃ m', m' < m ∧ W (i + 1) m' H') ∧ ∀ x H', (Itt K a).yld i H x H' → body x H' N2) := by
  refine ⟨fun i m H => m + i = xs.length ∧ I i H, ⟨xs.length, rfl, h0⟩, ?_⟩
  rintro i m H ⟨e, p⟩
  have st := hl i H p
  rcases Nat.lt_or_ge i xs.length with h | h
  · have hx : xs[i]? = some xs[i] := List.getElem?_eq_getElem h
    refine .inr ⟨⟨xs, _, st, hx⟩, I (i + 1), fun H' p' => ⟨xs.length - (i + 1), by omega, by omega, p'⟩, ?_⟩
    rintro x H' ⟨e1, e2⟩
    rw [e1]
    exact hs i x H (e2 xs st) p
  · refine .inl ⟨⟨xs, st, h⟩, hd H ?_⟩
    obtain rfl : i = xs.length := by omega
    exact p
end
section
variable {F : Fm} {K : PySem.W.Frag} {σ : L2.St} {B : Hp} {tl tk tv : TE} {j : Nat} {ds : List PyData} {vs : List Nat}
/-- the dict that grows at D -/
def Dq (F : Fm) (B1 H1 : Hp) (D : Addr) (m : Mp) (H' : Hp) : Prop := ∃ B', Step F.M B1 H1 B' H' ∧ Ok F B' H' ∧ B' D = none ∧ H' D = some (.dT (toK m))
theorem dq_start {B1 H1 : Hp} {D : Addr} (k : Ok F B1 H1) (hD : H1 D = none) : Dq F B1 H1 D [] (upd H1 D (.dT [])) := by
  have hb : B1 D = none := fresh_back k.e hD
  have s : Step F.M B1 H1 B1 (upd H1 D (.dT [])) := ⟨Ex.refl B1, fun a o h => by rw [upd_ne (ne_of_none h hb)]; exact k.e a o h, fun a o _ h => by rw [upd_ne (ne_of_none h hD)]; exact h, fun a h _ => h, fun a n => by
    rw [upd_ne (show a ≠ D from fun z => n (by rw [z]; exact hD))]
    exact n, fun a n => n.upd fun z => n.ne (z ▸ hD)⟩
  exact ⟨B1, s, k.next s (F.up _ _ (Ex.new hD) k.j), hb, upd_same⟩
theorem dq_done {B1 H1 H' : Hp} {D : Addr} {m : Mp} (k1 : Ok F B1 H1) (hD : H1 D = none) (c : Dq F B1 H1 D m H') : ∃ B2, Step F.M B1 H1 B2 H' ∧ Ok F B2 H' ∧ DicV m (.ref D) B2 := by
  obtain ⟨B', s, k, hb, hd⟩ := c
  have s2 : Step F.M B1 H1 (upd B' D (.dT (toK m))) H' := ⟨s.bb.trans (Ex.new hb), fun a o h => by
    by_cases e : a = D
    · subst e
      rw [upd_same] at h
      rw [hd]
      exact h
    · rw [upd_ne e] at h
      exact k.e a o h, s.keep, fun a h n => by
    rw [upd_ne (show a ≠ D from fun z => n.ne (by rw [z]; exact hD))]
    exact s.sep a h n, s.live, s.liv⟩
  exact ⟨_, s2, k1.next s2 k.j, D, rfl, upd_same⟩
/-- the keys as they come, each once -/
def rowM (kf : PyData → List Int) (n : Int) (ds : List PyData) : Mp := ds.map fun d => (kf d, n)
theorem pt_new {m : Mp} {k : List Int} {v : Int} (h : lkI m k = none) : ptI m k v = m ++ [(k, v)] := by
  induction m with
  | nil => rfl
  | cons p m ih =>
    have h2 := lkI_none.mp h
    unfold ptI
    rw [if_neg (h2 p List.mem_cons_self), ih (lkI_none.mpr fun q hq => h2 q (List.mem_cons_of_mem _ hq))]
    rfl
/-- {key: n for x in data} -/
theorem ev_dcD (kf : PyData → List Int) (n : Int) (h : EV F tl σ B (SqV K (DDs K ds))) (hz : ds.length ≤ 16777216) (hn : (ds.map kf).Nodup) (hw : ∀ x, wipe ((wipe σ vs).set j (some x)) vs = wipe σ vs)
    (hk : ∀ d v B1, d ∈ ds → Ex B B1 → Dd K B1 v d → EV F tk ((wipe σ vs).set j (some v)) B1 (KeyV (kf d)))
    (he : ∀ d v B1, d ∈ ds → Ex B B1 → Dd K B1 v d → ED F K tv ((wipe σ vs).set j (some v)) B1 (.int n)) :
    EV F (tDcT (iSeq K tl) (gName j) (fun _ H Q => Q true H) tk tv vs) σ B (DicV (rowM kf n ds)) := fun B0 e0 H0 k0 Q q => by
  refine h B0 e0 H0 k0 _ fun v B1 H1 s1 k1 pv => ?_
  obtain ⟨l, us, rfl, hl, ps⟩ := pv
  have ps' : DdAll K B1 us ds := ps
  have turn : ∀ (D : Addr), H1 D = none → ∀ i x H', us[i]? = some x → Dq F B1 H1 D (rowM kf n (ds.take i)) H' → gName j x (wipe σ vs) H' fun σ2 H2 => wipe σ2 vs = wipe σ vs ∧ (fun (_ : L2.St) H (Q : Bool → Hp → Prop) => Q true H) σ2 H2 fun b H3 =>
      if b = true then tk σ2 H3 fun y H4 => tv σ2 H4 fun z H5 => ∃ (kvs : List (List Key × V)) (k : List Key) (c : Addr), y = .ref c ∧ H5 c = some (.tup (k.map kV)) ∧ H5 D = some (.dT kvs) ∧ kvs.length < sizeLine ∧ Dq F B1 H1 D (rowM kf n (ds.take (i + 1))) (upd H5 D (.dT (putK kvs k z))) else Dq F B1 H1 D (rowM kf n (ds.take (i + 1))) H3 := by
    intro D hD i x H' hx c
    obtain ⟨d, hd, hdv⟩ := ps'.getv hx
    have hm : d ∈ ds := List.mem_of_getElem? hd
    have hi : i < ds.length := (List.getElem?_eq_some_iff.mp hd).1
    refine ⟨hw x, ?_⟩
    show tk ((wipe σ vs).set j (some x)) H' _
    obtain ⟨B', s, k, hb, hd3⟩ := c
    have nm : ¬ F.M D := fun m => (F.lv H1 D k1.j m).ne hD
    have lv : Liv H' D := ⟨_, hd3, trivial⟩
    refine hk d x B' hm ((e0.trans s1.bb).trans s.bb) (hdv.up s.bb) B' (Ex.refl B') H' k _ fun y B4 H4 s4 k4 ⟨cA, ey, gc⟩ => ?_
    refine he d x B4 hm (((e0.trans s1.bb).trans s.bb).trans s4.bb) (hdv.up (s.bb.trans s4.bb)) B4 (Ex.refl B4) H4 k4 _ fun z B5 H5 s5 k5 gz => ?_
    obtain rfl := dd_int gz
    have hd5 : H5 D = some (.dT (toK (rowM kf n (ds.take i)))) := s5.keep D _ nm (s4.keep D _ nm hd3)
    have lv4 : Liv H4 D := s4.liv D lv
    have hb5 : B5 D = none := s5.sep D (s4.sep D hb lv) lv4
    refine ⟨_, kI (kf d), cA, ey, by rw [kV_kI]; exact k5.e _ _ (s5.bb _ _ gc), hd5, ?_, ?_⟩
    · rw [sizeLine_eq]
      show (List.map _ (List.map _ (ds.take i))).length < _
      rw [List.length_map, List.length_map, List.length_take]
      omega
    · have hnd : Nd (rowM kf n (ds.take i)) := by
        unfold Nd rowM
        rw [List.map_map]
        have : (ds.take i).map ((fun x : List Int × Int => x.1) ∘ fun d => (kf d, n)) = (ds.map kf).take i := by rw [List.map_take]; rfl
        rw [this]
        exact hn.sublist (List.take_sublist _ _)
      have hno : lkI (rowM kf n (ds.take i)) (kf d) = none := lkI_none.mpr fun p hp => by
        obtain ⟨d', hd', rfl⟩ := List.mem_map.mp hp
        obtain ⟨j', hj', e'⟩ := List.getElem_of_mem hd'
        rw [List.length_take] at hj'
        intro ee
        have h1 : (ds.map kf)[j']? = some (kf d') := by
          rw [List.getElem?_map, ← e', List.getElem_take, List.getElem?_eq_getElem (by omega)]
          rfl
        have h2 : (ds.map kf)[i]? = some (kf d) := by rw [List.getElem?_map, hd]; rfl
        have h3 := (List.getElem?_inj (by rw [List.length_map]; omega) hn).mp ((h1.trans (congrArg some ee)).trans h2.symm)
        omega
      rw [put_toK hnd, pt_new hno]
      have e2 : rowM kf n (ds.take (i + 1)) = rowM kf n (ds.take i) ++ [(kf d, n)] := by
        unfold rowM
        rw [take_snoc hd, List.map_append]
        rfl
      rw [e2]
      have st : Step F.M B1 H1 B5 H5 := (s.trans s4).trans s5
      have s6 : Step F.M B1 H1 B5 (upd H5 D (.dT (toK (rowM kf n (ds.take i) ++ [(kf d, n)])))) := ⟨st.bb, fun a o h => by rw [upd_ne (ne_of_none h hb5)]; exact k5.e a o h, fun a o n h => by rw [upd_ne (ne_of_none h hD)]; exact st.keep a o n h, st.sep, fun a n => by
        rw [upd_ne (show a ≠ D from fun z => n (by rw [z]; exact hD))]
        exact st.live a n, fun a n => (st.liv a n).upd fun z => n.ne (z ▸ hD)⟩
      exact ⟨B5, s6, k1.next s6 (F.fr H5 D _ k5.j nm), hb5, upd_same⟩
  have fin : ∀ (D : Addr), H1 D = none → ∀ H', Dq F B1 H1 D (rowM kf n (ds.take us.length)) H' → Q (.ref D) H' := by
    intro D hD H' c
    rw [ps'.len, List.take_length] at c
    obtain ⟨B2, s2, k2, g2⟩ := dq_done k1 hD c
    exact q _ B2 H' (s1.trans s2) k2 g2
  refine ⟨l, rfl, ?_⟩
  rcases hl with hl | hl
  · refine .inl ⟨⟨us, ex_l k1.e hl⟩, fun D hD => w_lst (K := K) (xs := us) (fun i => Dq F B1 H1 D (rowM kf n (ds.take i))) (dq_start k1 hD) (fun i H' c => ?_) (fun i x H' hx c => turn D hD i x H' hx c) (fun H' c => fin D hD H' c)⟩
    obtain ⟨B', s, k, _⟩ := c
    exact ex_l k.e (ex_l s.bb hl)
  · refine .inr ⟨⟨us, ex_t k1.e hl⟩, fun D hD => w_tup (K := K) (xs := us) (fun i => Dq F B1 H1 D (rowM kf n (ds.take i))) (dq_start k1 hD) (fun i H' c => ?_) (fun i x H' hx c => turn D hD i x H' hx c) (fun H' c => fin D hD H' c)⟩
    obtain ⟨B', s, k, _⟩ := c
    exact ex_t k.e (ex_t s.bb hl)
end
end Dx

/-! loops whose word speaks of the slots, the data and the heap: ranges, data -/
namespace Dx
open PySem PySem.Spec PyProof.Rows L2 Evl
section
variable {F : Fm} {K : PySem.W.Frag} {σ : L2.St} {B H : Hp} {D : Ends} {tb tz : TS} {tl te : TE} {j : Nat} {ds : List PyData}
/-- where a turn goes on -/
def Nx (Bb : Hp) (J : L2.St → Hp → Hp → Prop) : L2.St → Hp → Prop := fun σ2 H2 => ∃ B2, Ex Bb B2 ∧ J σ2 B2 H2
theorem os_rng2 {ta : TA} {lo n : Int} (ok : Ok F B H) (h : EDs F K ta σ B [.int lo, .int n]) (hn : (-4611686018427387904 ≤ lo ∧ lo < 4611686018427387904) ∧ -4611686018427387904 ≤ n ∧ n < 4611686018427387904) (J : Nat → L2.St → Hp → Hp → Prop) (h0 : ∀ B1 H1, Step F.M B H B1 H1 → Ok F B1 H1 → J 0 σ B1 H1)
    (hs : ∀ Bb (i : Nat) σ' B1 H1, Ex B Bb → lo + (i : Int) < n → Ex Bb B1 → J i σ' B1 H1 → tb { D with nx := Nx Bb (J (i + 1)), ct := Nx Bb (J (i + 1)), bk := D.nx } (σ'.set j (some (.int (lo + (i : Int))))) H1)
    (hd : ∀ σ' B1 H1, Ex B B1 → J (n - lo).toNat σ' B1 H1 → D.nx σ' H1) : tFor (iRng2 ta) (gName j) tb D σ H := by
  refine h B (Ex.refl B) H ok _ fun vs B1 H1 s1 k1 p => ?_
  obtain rfl := dds2 p
  exact ⟨lo, n, rfl, ⟨by omega, by omega, by omega, by omega⟩, for_range (lo := lo) (n := (n - lo).toNat) (fun i => Nx B1 (J i)) ⟨B1, Ex.refl B1, h0 B1 H1 s1 k1⟩ (fun i σ' H' hi ⟨B2, e2, q⟩ => hs B1 i σ' B2 H' s1.bb (by omega) e2 q) fun σ' H' ⟨B2, e2, q⟩ => hd σ' B2 H' (s1.bb.trans e2) q⟩
theorem os_rng1 {ta : TA} {n : Int} (ok : Ok F B H) (h : EDs F K ta σ B [.int n]) (hn : -4611686018427387904 ≤ n ∧ n < 4611686018427387904) (J : Nat → L2.St → Hp → Hp → Prop) (h0 : ∀ B1 H1, Step F.M B H B1 H1 → Ok F B1 H1 → J 0 σ B1 H1)
    (hs : ∀ Bb (i : Nat) σ' B1 H1, Ex B Bb → (i : Int) < n → Ex Bb B1 → J i σ' B1 H1 → tb { D with nx := Nx Bb (J (i + 1)), ct := Nx Bb (J (i + 1)), bk := D.nx } (σ'.set j (some (.int (i : Int)))) H1)
    (hd : ∀ σ' B1 H1, Ex B B1 → J n.toNat σ' B1 H1 → D.nx σ' H1) : tFor (iRng1 ta) (gName j) tb D σ H := by
  refine h B (Ex.refl B) H ok _ fun vs B1 H1 s1 k1 p => ?_
  have p' : vs = [V.int n] := ddAll_ints (k := [n]) p
  refine ⟨n, p', by omega, by omega, for_range (lo := 0) (n := n.toNat) (fun i => Nx B1 (J i)) ⟨B1, Ex.refl B1, h0 B1 H1 s1 k1⟩ (fun i σ' H' hi ⟨B2, e2, q⟩ => ?_) fun σ' H' ⟨B2, e2, q⟩ => hd σ' B2 H' (s1.bb.trans e2) q⟩
  show tb _ (σ'.set j (some (.int ((0 : Int) + (i : Int))))) H'
  rw [Int.zero_add]
  exact hs B1 i σ' B2 H' s1.bb (by omega) e2 q
theorem oq_rng2 {ta : TA} {lo n : Int} (ok : Ok F B H) (h : EDs F K ta σ B [.int lo, .int n]) (hn : (-4611686018427387904 ≤ lo ∧ lo < 4611686018427387904) ∧ -4611686018427387904 ≤ n ∧ n < 4611686018427387904) (J : Nat → L2.St → Hp → Hp → Prop) (h0 : ∀ B1 H1, Step F.M B H B1 H1 → Ok F B1 H1 → J 0 σ B1 H1)
    (hs : ∀ Bb (i : Nat) σ' B1 H1, Ex B Bb → lo + (i : Int) < n → Ex Bb B1 → J i σ' B1 H1 → tb { D with nx := Nx Bb (J (i + 1)), ct := Nx Bb (J (i + 1)), bk := tz D } (σ'.set j (some (.int (lo + (i : Int))))) H1)
    (hd : ∀ σ' B1 H1, Ex B B1 → J (n - lo).toNat σ' B1 H1 → tz D σ' H1) : tSeq (tFor (iRng2 ta) (gName j) tb) tz D σ H := os_rng2 (D := { D with nx := tz D }) ok h hn J h0 hs hd
theorem oq_rng1 {ta : TA} {n : Int} (ok : Ok F B H) (h : EDs F K ta σ B [.int n]) (hn : -4611686018427387904 ≤ n ∧ n < 4611686018427387904) (J : Nat → L2.St → Hp → Hp → Prop) (h0 : ∀ B1 H1, Step F.M B H B1 H1 → Ok F B1 H1 → J 0 σ B1 H1)
    (hs : ∀ Bb (i : Nat) σ' B1 H1, Ex B Bb → (i : Int) < n → Ex Bb B1 → J i σ' B1 H1 → tb { D with nx := Nx Bb (J (i + 1)), ct := Nx Bb (J (i + 1)), bk := tz D } (σ'.set j (some (.int (i : Int)))) H1)
    (hd : ∀ σ' B1 H1, Ex B B1 → J n.toNat σ' B1 H1 → tz D σ' H1) : tSeq (tFor (iRng1 ta) (gName j) tb) tz D σ H := os_rng1 (D := { D with nx := tz D }) ok h hn J h0 hs hd
/-- over what stands as a list or tuple of data -/
theorem os_forD {g : TG} (ok : Ok F B H) (h : EV F tl σ B (SqV K (DDs K ds))) (J : Nat → L2.St → Hp → Hp → Prop) (hj : ∀ i σ B H, J i σ B H → Ex B H) (h0 : ∀ B1 H1, Step F.M B H B1 H1 → Ok F B1 H1 → J 0 σ B1 H1)
    (hs : ∀ Bb n d v σ' B1 H1, ds[n]? = some d → Ex B Bb → Ex Bb B1 → Dd K B1 v d → J n σ' B1 H1 → g v σ' H1 fun σ2 H2 => tb { D with nx := Nx Bb (J (n + 1)), ct := Nx Bb (J (n + 1)), bk := D.nx } σ2 H2)
    (hd : ∀ σ' B1 H1, Ex B B1 → J ds.length σ' B1 H1 → D.nx σ' H1) : tFor (iSeq K tl) g tb D σ H := by
  refine h B (Ex.refl B) H ok _ fun v B1 H1 s1 k1 pv => ?_
  obtain ⟨l, vs, rfl, hl, ps⟩ := pv
  have ps' : DdAll K B1 vs ds := ps
  have turn : ∀ n x σ' H', vs[n]? = some x → Nx B1 (J n) σ' H' → g x σ' H' fun σ2 H2 => tb { D with nx := Nx B1 (J (n + 1)), ct := Nx B1 (J (n + 1)), bk := D.nx } σ2 H2 := by
    rintro n x σ' H' hx ⟨B2, e2, q⟩
    obtain ⟨d, hd, hdv⟩ := ps'.getv hx
    exact hs B1 n d x σ' B2 H' hd s1.bb e2 (hdv.up e2) q
  have fin : ∀ σ' H', Nx B1 (J vs.length) σ' H' → D.nx σ' H' := fun σ' H' ⟨B2, e2, q⟩ => hd σ' B2 H' (s1.bb.trans e2) (by rw [← ps'.len]; exact q)
  refine ⟨l, rfl, ?_⟩
  rcases hl with hl | hl
  · exact .inl ⟨⟨vs, ex_l k1.e hl⟩, for_list (K := K) (xs := vs) (fun n => Nx B1 (J n)) ⟨B1, Ex.refl B1, h0 B1 H1 s1 k1⟩ (fun n σ' H' _ ⟨B2, e, q⟩ => ex_l (hj _ _ _ _ q) (ex_l e hl)) turn fin⟩
  · exact .inr ⟨⟨vs, ex_t k1.e hl⟩, for_tup (K := K) (xs := vs) (fun n => Nx B1 (J n)) ⟨B1, Ex.refl B1, h0 B1 H1 s1 k1⟩ (fun n σ' H' _ ⟨B2, e, q⟩ => ex_t (hj _ _ _ _ q) (ex_t e hl)) turn fin⟩
theorem oq_forD {g : TG} (ok : Ok F B H) (h : EV F tl σ B (SqV K (DDs K ds))) (J : Nat → L2.St → Hp → Hp → Prop) (hj : ∀ i σ B H, J i σ B H → Ex B H) (h0 : ∀ B1 H1, Step F.M B H B1 H1 → Ok F B1 H1 → J 0 σ B1 H1)
    (hs : ∀ Bb n d v σ' B1 H1, ds[n]? = some d → Ex B Bb → Ex Bb B1 → Dd K B1 v d → J n σ' B1 H1 → g v σ' H1 fun σ2 H2 => tb { D with nx := Nx Bb (J (n + 1)), ct := Nx Bb (J (n + 1)), bk := tz D } σ2 H2)
    (hd : ∀ σ' B1 H1, Ex B B1 → J ds.length σ' B1 H1 → tz D σ' H1) : tSeq (tFor (iSeq K tl) g tb) tz D σ H := os_forD (D := { D with nx := tz D }) ok h J hj h0 hs hd
end
/-! ### a list of one's own of ints, read while it stands -/
section
variable {K : PySem.W.Frag} {B0 H0 B H B5 H5 : Hp} {na : Addr} {xs : List V} {σ : L2.St} {te : TE} {t : TT} {tu tw tz : TS} {b : Bool} {i : Nat} {D : Ends} {P : PV}
/-- what stands at x stands just so, and is one's own -/
def Fm.mine (x : Addr) (o : HO) (ho : nT o := by trivial) : Fm := ⟨fun a => a = x, fun H => H x = some o, fun _ _ e h => e _ _ h, fun H a h e => ⟨o, by rw [show a = x from e]; exact h, ho⟩, fun H a o' h n => (by rw [upd_ne (Ne.symm n)]; exact h)⟩
theorem S1.obk (m : S1 B0 H0 B H na xs) : Ok (Fm.mine na (.lst xs)) B H := ⟨m.st.bh, m.hn, fun a e => by rw [show a = na from e]; exact m.bn⟩
theorem step_mine {fa : Addr} (h0 : H0 fa = none) (s : Step (fun _ => False) B0 H0 B H) (t : Step (fun a => a = fa) B H B5 H5) : Step (fun _ => False) B0 H0 B5 H5 :=
  ⟨s.bb.trans t.bb, t.bh, fun a o n h => t.keep a o (fun z => by rw [z, h0] at h; cases h) (s.keep a o n h), fun a h n => t.sep a (s.sep a h n) (s.liv a n), fun a n => t.live a (s.live a n), fun a n => t.liv a (s.liv a n)⟩
theorem S1.obp (m : S1 B0 H0 B H na xs) (s : Step (fun a => a = na) B H B5 H5) (k : Ok (Fm.mine na (.lst xs)) B5 H5) : S1 B0 H0 B5 H5 na xs := ⟨step_mine m.n0 m.st s, m.n0, k.av na rfl, k.j⟩
theorem os_if (m : S1 B0 H0 B H na xs) (h : ETt (Fm.mine na (.lst xs)) t σ B b) (h1 : b = true → ∀ B5 H5, S1 B0 H0 B5 H5 na xs → Ex B B5 → tu D σ H5) (h2 : b = false → ∀ B5 H5, S1 B0 H0 B5 H5 na xs → Ex B B5 → tw D σ H5) : tIfS t tu tw D σ H := h B (Ex.refl B) H m.obk _ fun B5 H5 s5 k5 => by
  cases b with
  | true =>
    show tu D σ H5
    exact h1 rfl B5 H5 (m.obp s5 k5) s5.bb
  | false =>
    show tw D σ H5
    exact h2 rfl B5 H5 (m.obp s5 k5) s5.bb
theorem oq_asg (m : S1 B0 H0 B H na xs) (h : EV (Fm.mine na (.lst xs)) te σ B P) (k : ∀ v B5 H5, S1 B0 H0 B5 H5 na xs → Ex B B5 → P v B5 → tz D (σ.set i (some v)) H5) : tSeq (tAsg te (gName i)) tz D σ H := h B (Ex.refl B) H m.obk _ fun v B5 H5 s5 k5 p => k v B5 H5 (m.obp s5 k5) s5.bb p
/-- k in found, k not in found: found the list of ints that grows -/
theorem et_ninI {S : List Int} {x : Int} (hi : σ[i]? = some (some (.ref na))) (h : ED (Fm.mine na (.lst xs)) K te σ B (.int x)) (hx : xs = S.map V.int) : ETt (Fm.mine na (.lst xs)) (tTest (tOp (rIn K true) te (tVar i))) σ B (!S.contains x) := fun B1 e0 H j Q q =>
  h B1 e0 H j _ fun v B2 H2 s2 j2 g => by
    obtain rfl := dd_int g
    refine ⟨.ref na, hi, na, xs, rfl, .inl (sq_of j2.j), rfl, ?_, _, rfl, ?_⟩
    · rw [hx]
      exact List.all_eq_true.mpr fun y hy => by
        obtain ⟨s, _, rfl⟩ := List.mem_map.mp hy
        rfl
    · have e : inV (.int x) xs = S.contains x := by
        rw [hx]
        unfold inV
        rw [List.any_map]
        rw [Bool.eq_iff_iff, List.any_eq_true, List.contains_iff_mem]
        constructor
        · rintro ⟨y, hy, e⟩
          have e' : y = x := by simpa [eqV] using e
          exact e' ▸ hy
        · intro hx
          exact ⟨x, hx, by simp [eqV]⟩
      show Q (!inV (.int x) xs) H2
      rw [e]
      exact q B2 H2 s2 j2
end
end Dx

/-! sorted of dicts keyed by tuples of ints, of lists of tuples of ints, as data -/
namespace Dx
open PySem PySem.Spec PyProof.Rows L2 Evl
def isIs (xs : List V) : Bool := xs.all fun v => match v with | .int _ => true | _ => false
theorem isIs_map (k : List Int) : isIs (k.map V.int) = true := by
  unfold isIs
  rw [List.all_map]
  exact List.all_eq_true.mpr fun _ _ => rfl
/-- the data, and every tuple of ints that stands -/
def seeT (B H : Hp) : Hp := fun a => match B a with
  | some o => some o
  | none => match H a with
    | some (.tup xs) => if isIs xs = true then some (.tup xs) else none
    | _ => none
section
variable {F : Fm} {M : Addr → Prop} {B H : Hp}
theorem see_old : Ex B (seeT B H) := fun a o h => by
  unfold seeT
  rw [h]
theorem see_in (e : Ex B H) : Ex (seeT B H) H := fun a o h => by
  unfold seeT at h
  cases hb : B a with
  | some u =>
    rw [hb] at h
    have h' : some u = some o := h
    rw [← h']
    exact e _ _ hb
  | none =>
    rw [hb] at h
    cases hh : H a with
    | none =>
      rw [hh] at h
      cases h
    | some u =>
      rw [hh] at h
      cases u with
      | tup xs =>
        have h' : (if isIs xs = true then some (HO.tup xs) else none) = some o := h
        split at h'
        · exact h'
        · cases h'
      | _ => cases h
theorem see_at {a : Addr} {k : List Int} (e : Ex B H) (h : H a = some (.tup (k.map V.int))) : seeT B H a = some (.tup (k.map V.int)) := by
  unfold seeT
  cases hb : B a with
  | some u =>
    show some u = _
    rw [← e _ _ hb]
    exact h
  | none =>
    show (match H a with | some (.tup xs) => if isIs xs = true then some (HO.tup xs) else none | _ => none) = _
    rw [h]
    show (if isIs (k.map V.int) = true then some (HO.tup (k.map V.int)) else none) = _
    rw [if_pos (isIs_map k)]
theorem see_no {a : Addr} (h : B a = none) (n : Liv H a) : seeT B H a = none := by
  obtain ⟨o, ho, hn⟩ := n
  unfold seeT
  rw [h]
  show (match H a with | some (.tup xs) => if isIs xs = true then some (HO.tup xs) else none | _ => none) = _
  rw [ho]
  cases o with
  | tup xs => cases hn
  | _ => rfl
theorem see_step (e : Ex B H) : Step M B H (seeT B H) H := ⟨see_old, see_in e, fun _ _ _ h => h, fun a h n => see_no h n, fun _ h => h, fun _ h => h⟩
theorem Ok.see (k : Ok F B H) : Ok F (seeT B H) H := k.next (see_step k.e) k.j
end
/-- a tuple of ints, as data -/
def rowD (k : List Int) : PyData := .tuple (k.map .int)
theorem dd_rowD {K : PySem.W.Frag} {B : Hp} {a : Addr} {k : List Int} (h : B a = some (.tup (k.map V.int))) (hl : k.length ≤ 1000) : Dd K B (.ref a) (rowD k) := .tup (.inl h) (by rw [List.length_map, sizeLine_eq]; omega) (by
  clear h hl
  induction k with
  | nil => exact .nil
  | cons x k ih => exact .cons (.int x) ih)
theorem paired_dd {K : PySem.W.Frag} {B H : Hp} (e : Ex B H) : ∀ {ys : List V} {zs : List (List Int)}, Paired (fun y z => ∃ t, y = V.ref t ∧ H t = some (.tup (z.map V.int))) ys zs → (∀ z ∈ zs, z.length ≤ 1000) → DdAll K (seeT B H) ys (zs.map rowD)
  | _, _, .nil, _ => .nil
  | _, _, .cons (b := z) ⟨t, et, ht⟩ r, hl => by
    rw [et]
    exact .cons (dd_rowD (see_at e ht) (hl z List.mem_cons_self)) (paired_dd e r fun z hz => hl z (List.mem_cons_of_mem _ hz))
theorem bt_sorted : bootBuiltins "sorted" = some (.builtin "sorted") := by decide +kernel
theorem cr_sortDTK {X : Cx} (K : PySem.W.Frag) (hc : X.calm = true) : CallR X (.builtin "sorted") (rSortDT 5) := cr_sortDT (by decide) hc
theorem cr_sortTIK {X : Cx} (K : PySem.W.Frag) (hK : X.K = K := by rfl) : CallR X (.builtin "sorted") (rSortTI K 5) := cr_sortTI K (by decide) hK
section
variable {F : Fm} {K : PySem.W.Frag} {σ : L2.St} {B : Hp} {te : TE} {m : Mp} {n : Nat}
/-- what is in ascending order -/
abbrev Asc (zs : List (List Int)) : Prop := zs.Pairwise fun x y => HT.lexLt y x = false
theorem ev_sortD (h : EV F te σ B (DicV m)) (hn : ∀ p ∈ m, p.1.length = n) (hl : n ≤ 1000) (hz : m.length ≤ 16777216) : EV F (tCB (rSortDT n) (tCons te tNil)) σ B (fun v B' => ∃ zs : List (List Int), zs.Perm (m.map (·.1)) ∧ Asc zs ∧ Dd K B' v (.list (zs.map rowD))) := fun B1 e0 H1 k1 Q q =>
  h B1 e0 H1 k1 _ fun v B2 H2 s2 k2 ⟨a, ea, ga⟩ => by
    refine ⟨a, toK m, m.map (·.1), by rw [ea], k2.e _ _ ga, ?_, fun k hk => ?_, fun ys zs p hp hs hpr hnew => ?_⟩
    · unfold toK
      rw [List.map_map, List.map_map]
      rfl
    · obtain ⟨p, hp, rfl⟩ := List.mem_map.mp hk
      exact hn p hp
    · have k3 : Ok F (seeT B2 H2) H2 := k2.see
      have hlen : zs.length ≤ 16777216 := by
        rw [hp.length_eq, List.length_map]
        exact hz
      have hzl : ∀ z ∈ zs, z.length ≤ 1000 := fun z hz => by
        obtain ⟨p, hp', rfl⟩ := List.mem_map.mp (hp.mem_iff.mp hz)
        rw [hn p hp']
        exact hl
      have dd := paired_dd (K := K) k2.e hpr hzl
      refine q (.ref p) _ _ ((s2.trans (see_step k2.e)).trans (Step.alloc k3.e hnew)) (k3.alloc hnew) ⟨zs, hp, hs, .lst upd_same ?_ (dd.up (Ex.new (fresh_back k3.e hnew)))⟩
      rw [dd.len, List.length_map, sizeLine_eq]
      exact hlen
theorem ddAll_perm : ∀ {xs ys : List V}, ys.Perm xs → ∀ {ds : List PyData}, DdAll K B xs ds → ∃ es, es.Perm ds ∧ DdAll K B ys es := by
  intro xs ys p
  induction p with
  | nil =>
    intro ds h
    exact ⟨ds, .refl _, h⟩
  | cons x p ih =>
    intro ds h
    cases h with
    | cons a t =>
      obtain ⟨es, pe, he⟩ := ih t
      exact ⟨_ :: es, pe.cons _, .cons a he⟩
  | swap x y l =>
    intro ds h
    cases h with
    | cons a t =>
      cases t with
      | cons b t => exact ⟨_, .swap _ _ _, .cons b (.cons a t)⟩
  | trans p1 p2 ih1 ih2 =>
    intro ds h
    obtain ⟨es, pe, he⟩ := ih2 h
    obtain ⟨fs, pf, hf⟩ := ih1 he
    exact ⟨fs, pf.trans pe, hf⟩
/-- sorted([..]), the items tuples of d ints: the same items in some order -/
theorem ev_sortL {d : Nat} {zs : List (List Int)} (h : ED F K te σ B (.list (zs.map rowD))) (hd : ∀ z ∈ zs, z.length = d) : EV F (tCB (rSortTI K d) (tCons te tNil)) σ B (fun v B' => ∃ es : List PyData, es.Perm (zs.map rowD) ∧ Dd K B' v (.list es)) := fun B1 e0 H1 k1 Q q =>
  h B1 e0 H1 k1 _ fun v B2 H2 s2 k2 g => by
    obtain ⟨a, xs, rfl, h1, l1, g1⟩ := dd_lst g
    have ex : ∀ x ∈ xs, ∃ ns, TupI K H2 x ns ∧ ns.length = d := fun x hx => by
      obtain ⟨i, hi, rfl⟩ := List.getElem_of_mem hx
      obtain ⟨y, hy, hdd⟩ := g1.getv (List.getElem?_eq_getElem hi)
      rw [List.getElem?_map] at hy
      obtain ⟨z, hz, rfl⟩ := Option.map_eq_some_iff.mp hy
      obtain ⟨t, us, et, ht, _, hu⟩ := dd_tup (show Dd K B2 xs[i] (.tuple (z.map .int)) from hdd)
      rw [ddAll_ints hu] at ht
      exact ⟨z, ⟨t, et, ex_t k2.e ht⟩, hd z (List.mem_of_getElem? hz)⟩
    refine ⟨a, xs, fun x => Classical.epsilon fun ns => TupI K H2 x ns ∧ ns.length = d, rfl, sq_of (k2.e _ _ h1), fun x hx => ?_, fun ys p hp _ hnew => ?_⟩
    · exact Classical.epsilon_spec (ex x hx)
    · obtain ⟨es, pe, he⟩ := ddAll_perm hp g1
      refine q (.ref p) _ _ (s2.trans (Step.alloc k2.e hnew)) (k2.alloc hnew) ⟨es, pe, .lst upd_same ?_ (he.up (Ex.new (fresh_back k2.e hnew)))⟩
      rw [hp.length_eq]
      exact l1
end
end Dx

/-! a dict of one's own: statements that leave it, what is handed over; pairs taken apart -/
namespace Dx
open PySem PySem.Spec PyProof.Rows L2 Evl
section
variable {K : PySem.W.Frag} {B0 H0 B H B5 H5 : Hp} {na : Addr} {m : Mp} {σ : L2.St} {te tl : TE} {t : TT} {tu tw tz : TS} {D : Ends} {i : Nat} {P : PV} {b : Bool}
theorem qd_asg (d : D1 B0 H0 B H na m) (h : EV Fm.pure te σ B P) (k : ∀ v B5 H5, D1 B0 H0 B5 H5 na m → Ex B B5 → P v B5 → tz D (σ.set i (some v)) H5) : tSeq (tAsg te (gName i)) tz D σ H := h B (Ex.refl B) H d.ok _ fun v B5 H5 s5 _ p => k v B5 H5 (d.pass s5) s5.bb p
theorem sd_ifB (d : D1 B0 H0 B H na m) (h : ETt Fm.pure t σ B b) (h1 : b = true → ∀ B5 H5, D1 B0 H0 B5 H5 na m → Ex B B5 → tu D σ H5) (h2 : b = false → ∀ B5 H5, D1 B0 H0 B5 H5 na m → Ex B B5 → tw D σ H5) : tIfS t tu tw D σ H := h B (Ex.refl B) H d.ok _ fun B5 H5 s5 _ => by
  cases b with
  | true =>
    show tu D σ H5
    exact h1 rfl B5 H5 (d.pass s5) s5.bb
  | false =>
    show tw D σ H5
    exact h2 rfl B5 H5 (d.pass s5) s5.bb
theorem D1.data (d : D1 B0 H0 B H na m) : Step (fun _ => False) B0 H0 (upd B na (.dT (toK m))) H ∧ DicV m (.ref na) (upd B na (.dT (toK m))) := by
  refine ⟨⟨d.st.bb.trans (Ex.new d.bn), d.shut.2.1.e, d.st.keep, fun a h n => ?_, d.st.live, d.st.liv⟩, na, rfl, upd_same⟩
  rw [upd_ne (show a ≠ na from fun z => n.ne (z ▸ d.n0))]
  exact d.st.sep a h n
end
/-- a, b = a pair -/
theorem qv_unpP {F : Fm} {K : PySem.W.Frag} {σ : L2.St} {B0 H0 B H : Hp} {D : Ends} {tz : TS} {te : TE} {x y : PyData} {p1 p2 : Nat} (a : At F B0 H0 B H) (h : ED F K te σ B (.tuple [x, y]))
    (q : ∀ u v B1 H1, Ex B B1 → At F B0 H0 B1 H1 → Dd K B1 u x → Dd K B1 v y → tz D ((σ.set p1 (some u)).set p2 (some v)) H1) :
    tSeq (tAsg te (gTup K 2 (gCons (gName p1) (gCons (gName p2) gNil)))) tz D σ H := h B (Ex.refl B) H a.j _ fun w B1 H1 s jj p => by
  obtain ⟨b, us, rfl, hb, _, hus⟩ := dd_tup p
  cases hus with
  | cons hu t =>
    cases t with
    | cons hv t =>
      cases t
      exact ⟨b, _, rfl, ex_t jj.e hb, rfl, _, _, rfl, _, _, rfl, rfl, q _ _ B1 H1 s.bb (a.next s jj) hu hv⟩
end Dx

/-! objects of one's own, any number of them: lists and dicts that change -/
namespace Dx
open PySem PySem.Spec PyProof.Rows L2 Evl
/-- behind (B0, H0): at (B, H), where the objects L are one's own and stand just so -/
structure Ow (F : Fm) (B0 H0 B H : Hp) (L : List (Addr × HO)) : Prop where
  st : Step F.M B0 H0 B H
  k : Ok F B H
  ow : ∀ p ∈ L, H0 p.1 = none ∧ ¬ F.M p.1 ∧ B p.1 = none ∧ H p.1 = some p.2 ∧ nT p.2
  nd : (L.map (·.1)).Nodup
section
variable {F : Fm} {B0 H0 B H B5 H5 : Hp} {L : List (Addr × HO)} {a b : Addr} {o o' u : HO}
theorem ow_nil (k : Ok F B H) : Ow F B H B H [] := ⟨Step.refl k.e, k, fun p hp => (nomatch hp), List.nodup_nil⟩
theorem Ow.pass (w : Ow F B0 H0 B H L) (s : Step F.M B H B5 H5) (k5 : Ok F B5 H5) : Ow F B0 H0 B5 H5 L := ⟨w.st.trans s, k5, fun p hp => by
  obtain ⟨h0, nm, hb, hh, hn⟩ := w.ow p hp
  exact ⟨h0, nm, s.sep _ hb ⟨_, hh, hn⟩, s.keep _ _ nm hh, hn⟩, w.nd⟩
theorem Ow.ne (w : Ow F B0 H0 B H ((a, o) :: L)) {p : Addr × HO} (hp : p ∈ L) : p.1 ≠ a := fun e =>
  (List.nodup_cons.mp (show (a :: L.map (·.1)).Nodup from w.nd)).1 (e ▸ List.mem_map.mpr ⟨p, hp, rfl⟩)
theorem Ow.set (w : Ow F B0 H0 B H ((a, o) :: L)) (o' : HO) (hn : nT o') : Ow F B0 H0 B (L2.upd H a o') ((a, o') :: L) := by
  obtain ⟨h0, nm, hb, hh, _⟩ := w.ow (a, o) List.mem_cons_self
  have eB : Ex B (L2.upd H a o') := fun x u h => by
    rw [upd_ne (ne_of_none h hb)]
    exact w.k.e x u h
  refine ⟨⟨w.st.bb, eB, fun x u n h => ?_, w.st.sep, fun x n => ?_, fun x n => ?_⟩, ⟨eB, F.fr H a o' w.k.j nm, w.k.av⟩, fun p hp => ?_, w.nd⟩
  · rw [upd_ne (ne_of_none h h0)]
    exact w.st.keep x u n h
  · rw [upd_ne (show x ≠ a from fun z => n (z ▸ h0))]
    exact w.st.live x n
  · exact (w.st.liv x n).upd fun z => n.ne (z ▸ h0)
  · rcases List.mem_cons.mp hp with rfl | hp
    · exact ⟨h0, nm, hb, upd_same, hn⟩
    · obtain ⟨g0, gm, gb, gh, gn⟩ := w.ow p (List.mem_cons_of_mem _ hp)
      exact ⟨g0, gm, gb, by rw [upd_ne (w.ne hp)]; exact gh, gn⟩
theorem Ow.new (w : Ow F B0 H0 B H L) (ha : H a = none) (hn : nT o) : Ow F B0 H0 B (L2.upd H a o) ((a, o) :: L) := by
  have h0 : H0 a = none := by
    cases hh : H0 a with
    | none => rfl
    | some u => exact absurd ha (w.st.live a (by rw [hh]; exact fun z => nomatch z))
  have nm : ¬ F.M a := fun m => (F.lv H a w.k.j m).ne ha
  have hb : B a = none := fresh_back w.k.e ha
  have eB : Ex B (L2.upd H a o) := fun x u h => by
    rw [upd_ne (ne_of_none h hb)]
    exact w.k.e x u h
  have nin : ∀ p ∈ L, p.1 ≠ a := fun p hp e => by
    have := (w.ow p hp).2.2.2.1
    rw [e, ha] at this
    cases this
  refine ⟨⟨w.st.bb, eB, fun x u n h => ?_, w.st.sep, fun x n => ?_, fun x n => ?_⟩, ⟨eB, F.fr H a o w.k.j nm, w.k.av⟩, fun p hp => ?_, ?_⟩
  · rw [upd_ne (ne_of_none h h0)]
    exact w.st.keep x u n h
  · rw [upd_ne (show x ≠ a from fun z => n (z ▸ h0))]
    exact w.st.live x n
  · exact (w.st.liv x n).upd fun z => n.ne (z ▸ h0)
  · rcases List.mem_cons.mp hp with rfl | hp
    · exact ⟨h0, nm, hb, upd_same, hn⟩
    · obtain ⟨g0, gm, gb, gh, gn⟩ := w.ow p hp
      exact ⟨g0, gm, gb, by rw [upd_ne (nin p hp)]; exact gh, gn⟩
  · refine List.nodup_cons.mpr ⟨fun hm => ?_, w.nd⟩
    obtain ⟨p, hp, e⟩ := List.mem_map.mp hm
    exact nin p hp e
/-- the first one is handed over to the data -/
theorem Ow.drop (w : Ow F B0 H0 B H ((a, o) :: L)) : Ow F B0 H0 (L2.upd B a o) H L ∧ Ex B (L2.upd B a o) := by
  obtain ⟨h0, nm, hb, hh, hn⟩ := w.ow (a, o) List.mem_cons_self
  have eH : Ex (L2.upd B a o) H := fun x u h => by
    by_cases e : x = a
    · subst e
      rw [upd_same] at h
      rw [← h]
      exact hh
    · rw [upd_ne e] at h
      exact w.k.e x u h
  refine ⟨⟨⟨w.st.bb.trans (Ex.new hb), eH, w.st.keep, fun x h n => ?_, w.st.live, w.st.liv⟩, ⟨eH, w.k.j, fun x m => ?_⟩, fun p hp => ?_, (List.nodup_cons.mp (show (a :: L.map (·.1)).Nodup from w.nd)).2⟩, Ex.new hb⟩
  · rw [upd_ne (show x ≠ a from fun z => n.ne (z ▸ h0))]
    exact w.st.sep x h n
  · rw [upd_ne (show x ≠ a from fun z => nm (z ▸ m))]
    exact w.k.av x m
  · obtain ⟨g0, gm, gb, gh, gn⟩ := w.ow p (List.mem_cons_of_mem _ hp)
    exact ⟨g0, gm, by rw [upd_ne (w.ne hp)]; exact gb, gh, gn⟩
theorem Ow.perm {L' : List (Addr × HO)} (w : Ow F B0 H0 B H L) (p : L'.Perm L) : Ow F B0 H0 B H L' := ⟨w.st, w.k, fun q hq => w.ow q (p.mem_iff.mp hq), (p.map _).nodup_iff.mpr w.nd⟩
theorem Ow.swap (w : Ow F B0 H0 B H ((a, o) :: (b, u) :: L)) : Ow F B0 H0 B H ((b, u) :: (a, o) :: L) := w.perm (.swap _ _ _)
/-- all of them as data, for a look -/
def shutL : Hp → List (Addr × HO) → Hp
  | B, [] => B
  | B, p :: L => shutL (L2.upd B p.1 p.2) L
theorem Ow.shut : ∀ {L : List (Addr × HO)} {B : Hp}, Ow F B0 H0 B H L → Ow F B0 H0 (shutL B L) H [] ∧ Ex B (shutL B L) ∧ ∀ p ∈ L, shutL B L p.1 = some p.2
  | [], B, w => ⟨w, Ex.refl B, fun p hp => (nomatch hp)⟩
  | (a, o) :: L, B, w => by
    obtain ⟨w1, e1⟩ := w.drop
    obtain ⟨w2, e2, g⟩ := w1.shut
    refine ⟨w2, e1.trans e2, fun p hp => ?_⟩
    rcases List.mem_cons.mp hp with rfl | hp
    · exact e2 _ _ upd_same
    · exact g p hp
theorem Ow.look (w : Ow F B0 H0 B H L) (s : Step F.M (shutL B L) H B5 H5) (k5 : Ok F B5 H5) : Ow F B0 H0 B H5 L := by
  have e5 : Ex B H5 := (w.shut.2.1.trans s.bb).trans s.bh
  exact ⟨w.st.trans ⟨Ex.refl B, e5, s.keep, fun _ h _ => h, s.live, s.liv⟩, ⟨e5, k5.j, w.k.av⟩, fun p hp => by
    obtain ⟨g0, gm, gb, gh, gn⟩ := w.ow p hp
    exact ⟨g0, gm, gb, s.keep _ _ gm gh, gn⟩, w.nd⟩
theorem Ow.here (w : Ow F B0 H0 B H ((a, o) :: L)) : H a = some o := (w.ow (a, o) List.mem_cons_self).2.2.2.1
end
section
variable {F : Fm} {K : PySem.W.Frag} {B0 H0 B H : Hp} {L : List (Addr × HO)} {na : Addr} {o : HO} {xs : List V} {m : Mp} {σ : L2.St} {te tl tv ty : TE} {t : TT} {tu tw tz : TS} {D : Ends} {i : Nat} {P : PV} {W : V → Prop} {b : Bool} {d : PyData} {n : Int} {k : List Int}
/-- statements that leave one's own alone -/
theorem wq_asg (w : Ow F B0 H0 B H L) (h : EV F te σ B P) (q : ∀ v B5 H5, Ow F B0 H0 B5 H5 L → Ex B B5 → P v B5 → tz D (σ.set i (some v)) H5) : tSeq (tAsg te (gName i)) tz D σ H := h B (Ex.refl B) H w.k _ fun v B5 H5 s5 k5 p => q v B5 H5 (w.pass s5 k5) s5.bb p
theorem ws_asg (w : Ow F B0 H0 B H L) (h : EV F te σ B P) (q : ∀ v B5 H5, Ow F B0 H0 B5 H5 L → Ex B B5 → P v B5 → D.nx (σ.set i (some v)) H5) : tAsg te (gName i) D σ H := h B (Ex.refl B) H w.k _ fun v B5 H5 s5 k5 p => q v B5 H5 (w.pass s5 k5) s5.bb p
theorem ws_if (w : Ow F B0 H0 B H L) (h : ETt F t σ B b) (h1 : b = true → ∀ B5 H5, Ow F B0 H0 B5 H5 L → Ex B B5 → tu D σ H5) (h2 : b = false → ∀ B5 H5, Ow F B0 H0 B5 H5 L → Ex B B5 → tw D σ H5) : tIfS t tu tw D σ H := h B (Ex.refl B) H w.k _ fun B5 H5 s5 k5 => by
  cases b with
  | true =>
    show tu D σ H5
    exact h1 rfl B5 H5 (w.pass s5 k5) s5.bb
  | false =>
    show tw D σ H5
    exact h2 rfl B5 H5 (w.pass s5 k5) s5.bb
theorem wq_when (w : Ow F B0 H0 B H L) (h : ETt F t σ B b) (h1 : b = true → ∀ B5 H5, Ow F B0 H0 B5 H5 L → Ex B B5 → tu { D with nx := tz D } σ H5) (h2 : b = false → ∀ B5 H5, Ow F B0 H0 B5 H5 L → Ex B B5 → tz D σ H5) : tSeq (tIfS t tu tNext) tz D σ H := ws_if (D := { D with nx := tz D }) w h h1 h2
theorem ws_ret (w : Ow F B0 H0 B H L) (h : EV F te σ B P) (q : ∀ v B5 H5, Ow F B0 H0 B5 H5 L → Ex B B5 → P v B5 → D.rt v H5) : tRet te D σ H := h B (Ex.refl B) H w.k _ fun v B5 H5 s5 k5 p => q v B5 H5 (w.pass s5 k5) s5.bb p
/-- statements that look at one's own; what comes of it needs no heap -/
theorem wl_if (w : Ow F B0 H0 B H L) (h : ETt F t σ (shutL B L) b) (h1 : b = true → ∀ H5, Ow F B0 H0 B H5 L → tu D σ H5) (h2 : b = false → ∀ H5, Ow F B0 H0 B H5 L → tw D σ H5) : tIfS t tu tw D σ H := h _ (Ex.refl _) H w.shut.1.k _ fun B5 H5 s5 k5 => by
  cases b with
  | true =>
    show tu D σ H5
    exact h1 rfl H5 (w.look s5 k5)
  | false =>
    show tw D σ H5
    exact h2 rfl H5 (w.look s5 k5)
theorem wl_when (w : Ow F B0 H0 B H L) (h : ETt F t σ (shutL B L) b) (h1 : b = true → ∀ H5, Ow F B0 H0 B H5 L → tu { D with nx := tz D } σ H5) (h2 : b = false → ∀ H5, Ow F B0 H0 B H5 L → tz D σ H5) : tSeq (tIfS t tu tNext) tz D σ H := wl_if (D := { D with nx := tz D }) w h h1 h2
theorem wl_asg (w : Ow F B0 H0 B H L) (h : EV F te σ (shutL B L) (fun v _ => W v)) (q : ∀ v H5, Ow F B0 H0 B H5 L → W v → tz D (σ.set i (some v)) H5) : tSeq (tAsg te (gName i)) tz D σ H := h _ (Ex.refl _) H w.shut.1.k _ fun v B5 H5 s5 k5 p => q v H5 (w.look s5 k5) p
/-- new ones -/
theorem wq_lst (w : Ow F B0 H0 B H L) (q : ∀ na, Ow F B0 H0 B (upd H na (.lst [])) ((na, .lst []) :: L) → tz D (σ.set i (some (.ref na))) (upd H na (.lst []))) : tSeq (tAsg (tLst tNil) (gName i)) tz D σ H :=
  ⟨Nat.zero_le _, fun na hna => q na (w.new hna trivial)⟩
theorem wq_dict (w : Ow F B0 H0 B H L) (q : ∀ na, Ow F B0 H0 B (upd H na (.dT (toK []))) ((na, .dT (toK [])) :: L) → tz D (σ.set i (some (.ref na))) (upd H na (.dT (toK [])))) : tSeq (tAsg tDNewT (gName i)) tz D σ H :=
  fun na hna => q na (w.new hna trivial)
/-- the first one changes -/
theorem ws_app (w : Ow F B0 H0 B H ((na, .lst xs) :: L)) (hi : σ[i]? = some (some (.ref na))) (h : ED F K te σ B d) (hl : xs.length < 16777216) (q : ∀ v B5 H5, Ow F B0 H0 B5 H5 ((na, .lst (xs ++ [v])) :: L) → Ex B B5 → Dd K B5 v d → D.nx σ H5) : tDrop (tBM K "list" rAppend (tVar i) (tCons te tNil)) D σ H :=
  ⟨.ref na, hi, .inl ⟨rfl, _, sq_of w.here⟩, h B (Ex.refl B) H w.k _ fun v B5 H5 s5 k5 p => ⟨na, xs, v, rfl, rfl, (w.pass s5 k5).here, by rw [sizeLine_eq]; exact hl, q v B5 _ ((w.pass s5 k5).set _ trivial) s5.bb p⟩⟩
theorem ws_put (w : Ow F B0 H0 B H ((na, .dT (toK m)) :: L)) (hi : σ[i]? = some (some (.ref na))) (hv : EV F tv σ B (fun v _ => v = .int n)) (hk : EV F ty σ B (KeyV k)) (nd : Nd m) (hl : m.length < 16777216) (q : ∀ B5 H5, Ow F B0 H0 B5 H5 ((na, .dT (toK (ptI m k n))) :: L) → Ex B B5 → D.nx σ H5) : sDPut (tVar i) ty tv D σ H :=
  hv B (Ex.refl B) H w.k _ fun v B1 H1 s1 j1 ev => ⟨.ref na, hi, hk B1 s1.bb H1 j1 _ fun u B2 H2 s2 j2 ⟨a, eu, g⟩ => by
    have w2 := (w.pass s1 j1).pass s2 j2
    subst ev eu
    refine ⟨na, upd H2 na (.dT (putK (toK m) (kI k) (.int n))), rfl, DPut.t w2.here (by rw [kV_kI]; exact j2.e _ _ g) ?_, ?_⟩
    · rw [sizeLine_eq]
      show (List.map _ m).length < _
      rw [List.length_map]
      exact hl
    · rw [put_toK nd]
      exact q B2 _ (w2.set _ trivial) (s1.bb.trans s2.bb)⟩
/-- the first one, a list, as data -/
theorem Ow.dropL {ds : List PyData} (w : Ow F B0 H0 B H ((na, .lst xs) :: L)) (h : DdAll K B xs ds) (hl : ds.length ≤ 16777216) : Ow F B0 H0 (upd B na (.lst xs)) H L ∧ Ex B (upd B na (.lst xs)) ∧ Dd K (upd B na (.lst xs)) (.ref na) (.list ds) :=
  ⟨w.drop.1, w.drop.2, .lst upd_same (by rw [h.len, sizeLine_eq]; exact hl) (h.up w.drop.2)⟩
theorem Ow.dropD (w : Ow F B0 H0 B H ((na, .dT (toK m)) :: L)) : Ow F B0 H0 (upd B na (.dT (toK m))) H L ∧ Ex B (upd B na (.dT (toK m))) ∧ DicV m (.ref na) (upd B na (.dT (toK m))) :=
  ⟨w.drop.1, w.drop.2, na, rfl, upd_same⟩
end
end Dx

/-! dicts from ints to ints; max and min of a list -/
namespace Dx
open PySem PySem.Spec PyProof.Rows L2 Evl
abbrev IMp := Int → Option Int
structure KD (m : IMp) (N : Nat) (kvs : List (Key × V)) : Prop where
  len : kvs.length ≤ N
  val : ∀ k : Int, valV kvs (.inl k) = (m k).map V.int
def iput (m : IMp) (k v : Int) : IMp := fun j => if j = k then some v else m j
theorem kd_nil : KD (fun _ => none) 0 [] := ⟨Nat.le_refl _, fun _ => rfl⟩
theorem putK_len {κ : Type} [DecidableEq κ] (kvs : List (κ × V)) (k : κ) (v : V) : (putK kvs k v).length ≤ kvs.length + 1 := by
  unfold putK
  split
  · rw [List.length_map]
    omega
  · rw [List.length_append]
    exact Nat.le_refl _
theorem KD.put {m : IMp} {N : Nat} {kvs : List (Key × V)} (h : KD m N kvs) (k v : Int) : KD (iput m k v) (N + 1) (putK kvs (.inl k) (.int v)) := ⟨Nat.le_trans (putK_len kvs _ _) (Nat.succ_le_succ h.len), fun j => by
  rw [valV_put, h.val]
  unfold iput
  by_cases e : j = k
  · rw [if_pos (by rw [e]), if_pos e]
    rfl
  · rw [if_neg (fun z => e (Sum.inl.inj z)), if_neg e]⟩
def DicI (m : IMp) : PV := fun v B => ∃ a kvs N, v = .ref a ∧ B a = some (.dK kvs) ∧ KD m N kvs
theorem upc_dicI {m : IMp} : Upc (DicI m) := fun _ _ _ e ⟨a, kvs, N, h, g, k⟩ => ⟨a, kvs, N, h, e _ _ g, k⟩
theorem igetD {H : Hp} {a : Addr} {m : IMp} {N : Nat} {kvs : List (Key × V)} {k : Int} (h : H a = some (.dK kvs)) (g : KD m N kvs) : DGet H a (.int k) ((m k).map V.int) := by
  rw [← g.val]
  exact DGet.k (k := .inl k) h
section
variable {F : Fm} {K : PySem.W.Frag} {σ : L2.St} {B B0 H0 H : Hp} {td ty tv te : TE} {m : IMp} {k d n : Int} {na : Addr} {kvs : List (Key × V)} {L : List (Addr × HO)} {D : Ends} {i : Nat} {tz : TS}
theorem ev_iin (hd : EV F td σ B (DicI m)) (hk : ED F K ty σ B (.int k)) : ED F K (tDIn ty td) σ B (.bool (m k).isSome) := fun B1 e1 H j Q q =>
  hk B1 e1 H j _ fun u B2 H2 s2 j2 g2 => hd B2 (e1.trans s2.bb) H2 j2 _ fun v B3 H3 s3 j3 ⟨a, kvs, N, ha, g3, h3⟩ => by
    obtain rfl := dd_int g2
    refine ⟨a, _, ha, igetD (j3.e _ _ g3) h3, ?_⟩
    rw [Option.isSome_map]
    exact q _ B3 H3 (s2.trans s3) j3 (.bl _)
theorem ev_inin (hd : EV F td σ B (DicI m)) (hk : ED F K ty σ B (.int k)) : ED F K (tDNotIn ty td) σ B (.bool (!(m k).isSome)) := fun B1 e1 H j Q q =>
  hk B1 e1 H j _ fun u B2 H2 s2 j2 g2 => hd B2 (e1.trans s2.bb) H2 j2 _ fun v B3 H3 s3 j3 ⟨a, kvs, N, ha, g3, h3⟩ => by
    obtain rfl := dd_int g2
    refine ⟨a, _, ha, igetD (j3.e _ _ g3) h3, ?_⟩
    rw [Option.isSome_map]
    exact q _ B3 H3 (s2.trans s3) j3 (.bl _)
theorem ev_iget (hd : EV F td σ B (DicI m)) (hk : ED F K ty σ B (.int k)) (hn : m k = some n) : ED F K (tDGet td ty) σ B (.int n) := fun B1 e1 H j Q q =>
  hd B1 e1 H j _ fun v B2 H2 s2 j2 ⟨a, kvs, N, ha, g, h⟩ => hk B2 (e1.trans s2.bb) H2 j2 _ fun u B3 H3 s3 j3 g3 => by
    obtain rfl := dd_int g3
    have hh := igetD (k := k) (j3.e _ _ (s3.bb _ _ g)) h
    rw [hn] at hh
    exact ⟨a, .int n, ha, hh, q _ B3 H3 (s2.trans s3) j3 (.int n)⟩
/-- the first of one's own as what stands just so -/
theorem Ow.mine {o : HO} (w : Ow Fm.pure B0 H0 B H [(na, o)]) (ho : nT o := by trivial) : Ok (Fm.mine na o ho) B H := ⟨w.k.e, w.here, fun a e => by
  rw [show a = na from e]
  exact (w.ow (na, o) List.mem_cons_self).2.2.1⟩
theorem Ow.unmine {o : HO} {ho : nT o} {B5 H5 : Hp} (w : Ow Fm.pure B0 H0 B H [(na, o)]) (s : Step (fun a => a = na) B H B5 H5) (k : Ok (Fm.mine na o ho) B5 H5) : Ow Fm.pure B0 H0 B5 H5 [(na, o)] := by
  obtain ⟨h0, nm, _, _, hn⟩ := w.ow (na, o) List.mem_cons_self
  refine ⟨step_mine h0 w.st s, Ok.any k.e, fun p hp => ?_, w.nd⟩
  obtain rfl := List.mem_singleton.mp hp
  exact ⟨h0, nm, k.av na rfl, k.j, hn⟩
/-- te evaluated while it stands so -/
theorem wm_asg {o : HO} {ho : nT o} {P : PV} {σ : L2.St} {te : TE} (w : Ow Fm.pure B0 H0 B H [(na, o)]) (h : EV (Fm.mine na o ho) te σ B P) (q : ∀ v B5 H5, Ow Fm.pure B0 H0 B5 H5 [(na, o)] → Ex B B5 → P v B5 → tz D (σ.set i (some v)) H5) : tSeq (tAsg te (gName i)) tz D σ H := h B (Ex.refl B) H (w.mine ho) _ fun v B5 H5 s5 k5 p => q v B5 H5 (w.unmine s5 k5) s5.bb p
theorem ev_minI {N : Nat} {ho : nT (.dK kvs)} (hi : σ[i]? = some (some (.ref na))) (hk : ED (Fm.mine na (.dK kvs) ho) K ty σ B (.int k)) (h : KD m N kvs) : ED (Fm.mine na (.dK kvs) ho) K (tDIn ty (tVar i)) σ B (.bool (m k).isSome) := fun B1 e1 H j Q q =>
  hk B1 e1 H j _ fun u B2 H2 s2 j2 g2 => ⟨.ref na, hi, by
    obtain rfl := dd_int g2
    refine ⟨na, _, rfl, igetD j2.j h, ?_⟩
    rw [Option.isSome_map]
    exact q _ B2 H2 s2 j2 (.bl _)⟩
theorem wq_dictK (w : Ow F B0 H0 B H L) (q : ∀ na, Ow F B0 H0 B (upd H na (.dK [])) ((na, .dK []) :: L) → tz D (σ.set i (some (.ref na))) (upd H na (.dK []))) : tSeq (tAsg tDNewK (gName i)) tz D σ H :=
  fun na hna => q na (w.new hna trivial)
/-- the dict, the first of one's own, as data for a look -/
theorem own_dicI {N : Nat} (w : Ow F B0 H0 B H ((na, .dK kvs) :: L)) (h : KD m N kvs) : DicI m (.ref na) (shutL B ((na, .dK kvs) :: L)) := ⟨na, kvs, N, rfl, w.shut.2.2 _ List.mem_cons_self, h⟩
/-- d[k] = n, where n may be found by a look at d -/
theorem ws_iput (w : Ow F B0 H0 B H ((na, .dK kvs) :: L)) (hi : σ[i]? = some (some (.ref na))) (hv : ED F K tv σ (shutL B ((na, .dK kvs) :: L)) (.int n)) (hk : ED F K ty σ (shutL B ((na, .dK kvs) :: L)) (.int k)) (hl : kvs.length < 16777216) (q : ∀ H5, Ow F B0 H0 B H5 ((na, .dK (putK kvs (.inl k) (.int n))) :: L) → D.nx σ H5) : sDPut (tVar i) ty tv D σ H :=
  hv _ (Ex.refl _) H w.shut.1.k _ fun v B1 H1 s1 j1 gv => by
    have w1 := w.look s1 j1
    obtain rfl := dd_int gv
    exact ⟨.ref na, hi, hk _ (Ex.refl _) H1 w1.shut.1.k _ fun u B2 H2 s2 j2 gu => by
      have w2 := w1.look s2 j2
      obtain rfl := dd_int gu
      exact ⟨na, _, rfl, DPut.k (k := .inl k) w2.here (by rw [sizeLine_eq]; exact hl), q _ (w2.set _ trivial)⟩⟩
end
/-! ### max, min -/
theorem bt_sum : bootBuiltins "sum" = some (.builtin "sum") := by decide +kernel
theorem bt_max : bootBuiltins "max" = some (.builtin "max") := by decide +kernel
theorem bt_min : bootBuiltins "min" = some (.builtin "min") := by decide +kernel
section
variable {F : Fm} {K : PySem.W.Frag} {B : Hp} {ns : List Int} {M : Int}
theorem cr_maxLK {X : Cx} (K : PySem.W.Frag) (hc : X.calm = true) (hK : X.K = K := by rfl) : CallR X (.builtin "max") (rMax K) := by subst hK; exact cr_max hc
theorem cr_minLK {X : Cx} (K : PySem.W.Frag) (hc : X.calm = true) (hK : X.K = K := by rfl) : CallR X (.builtin "min") (rMin K) := by subst hK; exact cr_min hc
theorem rc_max (h : M ∈ ns) (hm : ∀ a ∈ ns, a ≤ M) : RDc F K (rMax K) B [.list (ns.map .int)] (.int M) := rc_of fun H u hu => by
  obtain ⟨a, xs, rfl, h1, l1, g1⟩ := dd_lst hu
  refine ⟨.int M, fun _ => .int _, fun Q q => ⟨a, ns, rfl, by rw [← ddAll_ints g1]; exact sq_of h1, ?_, fun m h2 h3 => ?_⟩⟩
  · cases ns with
    | nil => cases h
    | cons a l => exact Nat.succ_pos _
  · rw [show m = M from Int.le_antisymm (hm m h2) (h3 M h)]
    exact q
theorem rc_min (h : M ∈ ns) (hm : ∀ a ∈ ns, M ≤ a) : RDc F K (rMin K) B [.list (ns.map .int)] (.int M) := rc_of fun H u hu => by
  obtain ⟨a, xs, rfl, h1, l1, g1⟩ := dd_lst hu
  refine ⟨.int M, fun _ => .int _, fun Q q => ⟨a, ns, rfl, by rw [← ddAll_ints g1]; exact sq_of h1, ?_, fun m h2 h3 => ?_⟩⟩
  · cases ns with
    | nil => cases h
    | cons a l => exact Nat.succ_pos _
  · rw [show m = M from Int.le_antisymm (h3 M h) (hm m h2)]
    exact q
end
end Dx

/-! enumerate of a tuple -/
namespace Dx
open PySem PySem.Spec PyProof.Rows L2 Evl
theorem en_new {x : Value} {ob : Obj} {Hc : Heap → Prop} (B : Begins x ob Hc) :
    Meets (Builtin.«enumerate.__new__» ⟨[.type "enumerate", x], []⟩) (fun _ R z => Hc z.heap ∧ R (.ok (.ret (.ref (z.heap.push ob).objs.size)))
      { z with heap := (z.heap.push ob).push { cls := .type "enumerate", data := .fields #[.none, .bool false, .ref z.heap.objs.size, rawInt 0, .none, .none] } }) :=
  .of_wp fun pr wo A R z hz => by
    rcases z with ⟨hp, gs, dd, tt, oo⟩
    rcases hz with ⟨hc, hr⟩
    have sub0 := sub_enumerate
    have it0 : ∀ {A1 : Around} {E1 Q1 : Value → Shared → Prop}, Q1 (.ref hp.objs.size) ⟨hp.push ob, gs, dd, tt, oo⟩ → wpAny (model pr wo) A1 (pyIter x) Q1 E1 ⟨hp, gs, dd, tt, oo⟩ := fun k => B.iter pr wo _ _ _ _ hc k
    wp_walk using it0
    refine wpAny_stack_any fun _ => wpAny_pure ?_
    split
    · rename_i c _ _ _ _ _
      cases (c == Value.type "enumerate") <;> (wp_walk using it0; exact ⟨_, rfl, hr⟩)
    · wp_walk using it0
      exact ⟨_, rfl, hr⟩
section
variable {pr : Program} {wo : World} {A : Around} {E : Value → Shared → Prop} {z : Shared}
theorem en_call {x : Value} {ob : Obj} {Hc : Heap → Prop} {Q : Value → Shared → Prop} (B : Begins x ob Hc) (hc : Hc z.heap)
    (k : ∀ h2, IsEnum h2 (z.heap.objs.size + 1) z.heap.objs.size 0 .none → h2.get? z.heap.objs.size = some ob → (∀ b o, z.heap.get? b = some o → h2.get? b = some o) → Q (.ref (z.heap.objs.size + 1)) { z with heap := h2 }) :
    wpAny (model pr wo) A (call (.type "enumerate") [x]) Q E z := by
  refine callType_new F.called_enumerate (by decide) (F.typeCall_enumerate_1 _) (F.newCall_enumerate_1 _) (fun q => F.args_object_init_2 q _) F.entry_enumerate_new (en_new B) ⟨hc, ?_⟩
  have sz : (z.heap.push ob).objs.size = z.heap.objs.size + 1 := Heap.size_push ..
  have en : IsEnum ((z.heap.push ob).push { cls := .type "enumerate", data := .fields #[.none, .bool false, .ref z.heap.objs.size, rawInt 0, .none, .none] }) (z.heap.objs.size + 1) z.heap.objs.size 0 .none := sz ▸ Heap.get?_push_size (z.heap.push ob) rfl
  show _ ∧ _
  rw [sz]
  exact ⟨⟨_, en, rfl⟩, k _ en (Heap.get?_push_of_some _ (Heap.get?_push_size _ B.free)) fun b o q => Heap.get?_push_of_some _ (Heap.get?_push_of_some _ q)⟩
end
/-- the tuple at a as it stands at each turn, the items in new pairs with their places -/
def IteT (K : PySem.W.Frag) (a : Addr) : It where
  go i H := ∃ (xs : List V) (x : V), SqT K H a xs ∧ xs[i]? = some x
  yld i H v H' := ∃ t x, v = .ref t ∧ H t = none ∧ H' = upd H t (.tup [.int (i : Nat), x]) ∧ ∀ xs, SqT K H a xs → xs[i]? = some x
  stop i H := ∃ xs : List V, SqT K H a xs ∧ xs.length = i
structure EnSt (a e it : Addr) (i : Nat) (h : Heap) : Prop where
  en : ∃ old, IsEnum h e it ((i : Nat) : Int) old
  ti : h.IsTupleIter it a i
  n1 : e ≠ it
  n2 : e ≠ a
  n3 : a ≠ it
theorem en_turn {pr : Program} {wo : World} {K : PySem.W.Frag} {ts : List Expr} {kk : Nat} {ps : Pos} (a e it : Addr) : Turn pr wo K (.Tuple ts kk ps) (IteT K a) [e, it] e (EnSt a e it) where
  mem := List.mem_cons_self
  obj := fun i h st b hb => by
    obtain ⟨old, he⟩ := st.en
    obtain ⟨ob, hob, _, hdt⟩ := st.ti
    rcases List.mem_cons.mp hb with rfl | hb
    · exact ⟨_, he, fun v z => nomatch z⟩
    · rw [List.mem_singleton.mp hb]
      exact ⟨ob, hob, fun v z => by
        rw [hdt] at z
        cases z⟩
  keep := fun i h h' st k => ⟨let ⟨old, he⟩ := st.en; ⟨old, k e List.mem_cons_self _ he⟩, st.ti.at fun o z => k it (List.mem_cons_of_mem _ List.mem_cons_self) o z, st.n1, st.n2, st.n3⟩
  item := by
    rintro X rfl rfl rfl hc i pins s σ H E I hf st ⟨xs, x, hsq, hx⟩
    obtain ⟨old, he⟩ := st.en
    obtain ⟨vs, rv, pt, _⟩ := I.tuple hsq
    obtain ⟨u, hu, ru⟩ := rv.get hx
    have le : e < s.heap.objs.size := Heap.lt_size he
    have li : it < s.heap.objs.size := by
      obtain ⟨_, z, _⟩ := st.ti
      exact Heap.lt_size z
    have D := Draws.tuple (prog := X.prog) (w := X.w) (A := X.A.in1) (I.ok.hd hc) it a st.n3 vs.toArray
    have hi : i < vs.toArray.size := by
      have := (List.getElem?_eq_some_iff.mp hu).1
      simpa using this
    refine wpAny_pyNext_enum_itemD D he ⟨st.ti, (show s.heap.IsTuple a vs.toArray from pt)⟩ hi st.n1 (by simp [st.n1, st.n2]) fun y h1 tk hy ho hst hT _ hk => ⟨_, rfl, ?_⟩
    have ey : y = u := by
      have hy' : vs[i]? = some y := by simpa using hy
      exact Option.some.inj (hy'.symm.trans hu)
    subst ey
    refine wpAny_letOwnedTupleGo_enum (s := { s with heap := h1, toks := tk + 1 }) ho fun h2 he2 sb => ?_
    have at2 : h2.get? s.heap.objs.size = some { cls := .type "tuple", data := .seq #[.int i tk, y] } := (sb.2 _ (Nat.ne_of_gt le)).trans hT
    have ok2 : ObjOk X.prog X.w (upd H s.heap.objs.size (.tup [.int (i : Nat), x])) h2 s.heap.objs.size (.tup [.int (i : Nat), x]) := ⟨by show 2 ≤ sizeLine; decide, [.int i tk, y], .cons ⟨_, rfl⟩ (.cons ru .nil), ⟨_, at2, rfl, _, rfl⟩⟩
    have I2 : Inv X pins σ (upd H s.heap.objs.size (.tup [.int (i : Nat), x])) { s with heap := h2, toks := tk + 1 } := I.turnedNew (ch := [e, it]) (fun b ob nb z => (sb.2 b fun w => nb (w ▸ List.mem_cons_self)).trans (hk b ob (fun w => nb (w ▸ List.mem_cons_self)) (fun w => nb (w ▸ List.mem_cons_of_mem _ List.mem_cons_self)) z)) hf (Nat.le_refl _) ok2
    refine ⟨.ref s.heap.objs.size, _, I2, rfl, ⟨_, x, rfl, I.hok.fresh (Nat.le_refl _), rfl, fun ys hy2 => by
      rw [I.tuple_inj hy2 hsq]
      exact hx⟩, ⟨⟨y, by rw [show ((i + 1 : Nat) : Int) = (i : Int) + 1 by omega]; exact he2⟩, hst.1.at fun o z => (sb.2 it st.n1.symm).trans z, st.n1, st.n2, st.n3⟩, fun b hb => ?_⟩
    have lb : b < s.heap.objs.size := by
      rcases List.mem_cons.mp hb with rfl | hb
      · exact le
      · rw [List.mem_singleton.mp hb]
        exact li
    rw [upd_ne (Nat.ne_of_lt lb)]
    exact (hf b hb).1
  done := by
    rintro X rfl rfl rfl hc i pins s σ H E I hf st ⟨xs, hsq, hx⟩
    obtain ⟨old, he⟩ := st.en
    obtain ⟨vs, rv, pt, _⟩ := I.tuple hsq
    obtain ⟨f0, f1, f2, f3, f4, f5⟩ := hf it (List.mem_cons_of_mem _ List.mem_cons_self)
    have D := Draws.tuple (prog := X.prog) (w := X.w) (A := X.A.in1) (I.ok.hd hc) it a st.n3 vs.toArray
    have en : vs.toArray.size = i := by
      have := rv.length
      simp
      omega
    refine wpAny_pyNext_enum_endD D he ⟨by rw [en]; exact st.ti, (show s.heap.IsTuple a vs.toArray from pt)⟩ fun h2 more => ⟨rfl, ?_⟩
    exact I.turned (fun b ob nb z => more b ob nb z) f0 f1 f3 f4 f5
  self := fun A i s Q E st h => by
    obtain ⟨_, he⟩ := st.en
    exact wpAny_pyIter_enum he h
def iEnumT (K : PySem.W.Frag) (ta : TA) : TI := fun σ H R => ta σ H fun vs H1 => ∃ a xs, vs = [.ref a] ∧ SqT K H1 a xs ∧ R (IteT K a) H1
theorem pi_enumTK {X : Cx} (K : PySem.W.Frag) {ex : Expr} {ta : TA} {p1 p2 p3 : Pos} {ts : List Expr} {kk : Nat} (hg : Gl X "enumerate") (hm : X.mg "enumerate" = none) (ha : PA X [ex] ta) (hs : starEach [ex] X.env = [(false, eval ex X.env)] := by rfl) (hK : X.K = K := by rfl) : PI X (.Tuple ts kk p3) (.Call (.Name "enumerate" p1) [ex] [] p2) (iEnumT K ta) := by
  subst hK
  refine ⟨fun pins s σ H R I h => Call_ (ld_blt I hg hm boot_enumerate (PyProof.Rows.callWith_type1 (thn (ha.run p2 pins s σ H _ I h) fun us s1 ⟨vs, H1, I1, r1, q1⟩ => ?_) hs rfl))⟩
  obtain ⟨a, xs, rfl, hsq, q2⟩ := q1
  cases r1 with
  | cons r rr =>
    cases rr
    cases r
    obtain ⟨us, rv, pt, _⟩ := I1.tuple hsq
    have la : a < s1.heap.objs.size := by
      obtain ⟨o, z, _⟩ := (show s1.heap.IsTuple a us.toArray from pt)
      exact Heap.lt_size z
    refine en_call (begins_tuple a us.toArray) (show s1.heap.IsTuple a us.toArray from pt) fun h2 he hit hk => wpAny_pyIter_enum he ?_
    refine ⟨s1.heap.objs.size + 1, [s1.heap.objs.size + 1, s1.heap.objs.size], _, IteT X.K a, H1, rfl, I1.kept (t' := s1.toks) hk, en_turn a _ s1.heap.objs.size, ⟨⟨_, he⟩, ⟨_, hit, rfl, rfl⟩, Nat.succ_ne_self _, Nat.ne_of_gt (Nat.lt_succ_of_lt la), Nat.ne_of_lt la⟩, fun b hb => ?_, q2⟩
    have lb : s1.heap.objs.size ≤ b := by
      rcases List.mem_cons.mp hb with rfl | hb
      · omega
      · rw [List.mem_singleton.mp hb]
        exact Nat.le_refl _
    have nb := I1.hok.fresh lb
    exact I1.fpOk lb nb
section
variable {F : Fm} {K : PySem.W.Frag} {σ : L2.St} {B H : Hp} {D : Ends} {tb tz : TS} {te : TE} {ds : List PyData} {i0 j0 : Nat}
/-- for number, one in enumerate(a tuple of data) -/
theorem os_forE (ok : Ok F B H) (h : ED F K te σ B (.tuple ds)) (J : Nat → L2.St → Hp → Hp → Prop) (hj : ∀ i σ B H, J i σ B H → Ok F B H) (hup : ∀ i σ B H B5 H5, J i σ B H → Step F.M B H B5 H5 → Ok F B5 H5 → J i σ B5 H5) (h0 : ∀ B1 H1, Step F.M B H B1 H1 → Ok F B1 H1 → J 0 σ B1 H1)
    (hs : ∀ Bb (i : Nat) d v σ' B1 H1, ds[i]? = some d → Ex B Bb → Ex Bb B1 → Dd K B1 v d → J i σ' B1 H1 → tb { D with nx := Nx Bb (J (i + 1)), ct := Nx Bb (J (i + 1)), bk := D.nx } ((σ'.set i0 (some (.int (i : Int)))).set j0 (some v)) H1)
    (hd : ∀ σ' B1 H1, Ex B B1 → J ds.length σ' B1 H1 → D.nx σ' H1) : tFor (iEnumT K (tCons te tNil)) (gTup K 2 (gCons (gName i0) (gCons (gName j0) gNil))) tb D σ H := by
  refine h B (Ex.refl B) H ok _ fun v B1 H1 s1 k1 pv => ?_
  obtain ⟨a, us, rfl, ta, _, g⟩ := dd_tup pv
  have gl := g.len
  refine ⟨a, us, rfl, ex_t k1.e ta, fun i m σ' H' => m = us.length - i ∧ i ≤ us.length ∧ ∃ B2, Ex B1 B2 ∧ J i σ' B2 H', ⟨us.length, rfl, Nat.zero_le _, B1, Ex.refl B1, h0 B1 H1 s1 k1⟩, ?_⟩
  rintro i m σ' H' ⟨rfl, hi, B2, e2, q⟩
  have kq := hj _ _ _ _ q
  have sq : SqT K H' a us := ex_t kq.e (ex_t e2 ta)
  by_cases e : i = us.length
  · exact .inl ⟨⟨us, sq, e.symm⟩, hd σ' B2 H' (s1.bb.trans e2) (by rw [← gl, ← e]; exact q)⟩
  · have hlt : i < us.length := by omega
    have hx : us[i]? = some us[i] := List.getElem?_eq_getElem hlt
    refine .inr ⟨⟨us, us[i], sq, hx⟩, Nx B1 (J (i + 1)), fun σ2 H2 ⟨B3, e3, q3⟩ => ⟨us.length - (i + 1), by omega, rfl, by omega, B3, e3, q3⟩, fun y H2 ⟨T, x, ey, hT, eH, hx2⟩ => ?_⟩
    subst ey eH
    obtain rfl : x = us[i] := Option.some.inj ((hx2 us sq).symm.trans hx)
    obtain ⟨d, hdd, hdv⟩ := g.getv hx
    have eN : Ex B2 (upd B2 T (.tup [.int (i : Nat), us[i]])) := Ex.new (fresh_back kq.e hT)
    refine ⟨T, [.int (i : Nat), us[i]], rfl, .inl (.inl upd_same), rfl, ?_⟩
    exact ⟨_, _, rfl, _, _, rfl, rfl, hs B1 i d us[i] σ' _ _ hdd s1.bb (e2.trans eN) (hdv.up (e2.trans eN)) (hup _ _ _ _ _ _ q (Step.alloc kq.e hT) (kq.alloc hT))⟩
end
end Dx

/-! k02: the data that the defs speak of. -/
namespace K33
open PySem PySem.Spec PyProof.Rows L2 Evl Ex Dx
open PySem.PyData (strOk)
/-! ### data of limited depth -/
def Sm (n : Nat) (d : PyData) : Prop := d.canLay0 = true ∧ d.depth ≤ n
theorem Sm.sh {n : Nat} {d : PyData} (h : Sm n d) (hn : n ≤ 64 := by decide) : SeqAt.shaped d = true := by
  unfold SeqAt.shaped
  rw [h.1, Bool.true_and, decide_eq_true_eq]
  exact Nat.le_trans h.2 hn
theorem Sm.le {n m : Nat} {d : PyData} (h : Sm n d) (hn : n ≤ m) : Sm m d := ⟨h.1, Nat.le_trans h.2 hn⟩
theorem layAll_of : ∀ {ds : List PyData}, (∀ d ∈ ds, d.canLay0 = true) → PyData.canLayAll0 ds = true
  | [], _ => by simp [PyData.canLayAll0]
  | d :: ds, h => by
    simp only [PyData.canLayAll0]
    rw [h d List.mem_cons_self, layAll_of fun x hx => h x (List.mem_cons_of_mem _ hx)]
    rfl
theorem layAll_mem : ∀ {ds : List PyData} {d : PyData}, PyData.canLayAll0 ds = true → d ∈ ds → d.canLay0 = true
  | x :: ds, d, h, hm => by
    have h' : x.canLay0 = true ∧ PyData.canLayAll0 ds = true := by simpa [PyData.canLayAll0] using h
    rcases List.mem_cons.mp hm with rfl | hm
    · exact h'.1
    · exact layAll_mem h'.2 hm
theorem depthAll_of {n : Nat} : ∀ {ds : List PyData}, (∀ d ∈ ds, d.depth ≤ n) → PyData.depthAll ds ≤ n
  | [], _ => by simp [PyData.depthAll]
  | d :: ds, h => by
    simp only [PyData.depthAll]
    exact Nat.max_le.mpr ⟨h d List.mem_cons_self, depthAll_of fun x hx => h x (List.mem_cons_of_mem _ hx)⟩
theorem depthAll_mem : ∀ {ds : List PyData} {d : PyData}, d ∈ ds → d.depth ≤ PyData.depthAll ds
  | x :: ds, d, hm => by
    simp only [PyData.depthAll]
    rcases List.mem_cons.mp hm with rfl | hm
    · exact Nat.le_max_left _ _
    · exact Nat.le_trans (depthAll_mem hm) (Nat.le_max_right _ _)
theorem sm_tup {n : Nat} {ds : List PyData} (h : ∀ d ∈ ds, Sm n d) : Sm (n + 1) (.tuple ds) := ⟨by
  simp only [PyData.canLay0]
  exact layAll_of fun d hd => (h d hd).1, by
  simp only [PyData.depth]
  exact Nat.succ_le_succ (depthAll_of fun d hd => (h d hd).2)⟩
theorem sm_lst {n : Nat} {ds : List PyData} (h : ∀ d ∈ ds, Sm n d) : Sm (n + 1) (.list ds) := ⟨by
  simp only [PyData.canLay0]
  exact layAll_of fun d hd => (h d hd).1, by
  simp only [PyData.depth]
  exact Nat.succ_le_succ (depthAll_of fun d hd => (h d hd).2)⟩
theorem Sm.memT {n : Nat} {ds : List PyData} (h : Sm n (.tuple ds)) {d : PyData} (hd : d ∈ ds) : Sm (n - 1) d := ⟨layAll_mem (by simpa [PyData.canLay0] using h.1) hd, by
  have h1 : PyData.depthAll ds + 1 ≤ n := by simpa [PyData.depth] using h.2
  have h2 := depthAll_mem hd
  omega⟩
theorem Sm.memL {n : Nat} {ds : List PyData} (h : Sm n (.list ds)) {d : PyData} (hd : d ∈ ds) : Sm (n - 1) d := ⟨layAll_mem (by simpa [PyData.canLay0] using h.1) hd, by
  have h1 : PyData.depthAll ds + 1 ≤ n := by simpa [PyData.depth] using h.2
  have h2 := depthAll_mem hd
  omega⟩
theorem sm_int {n : Nat} {i : Int} : Sm (n + 1) (.int i) := ⟨by simp [PyData.canLay0], by simp [PyData.depth]⟩
theorem sm_bool {n : Nat} {b : Bool} : Sm (n + 1) (.bool b) := ⟨by simp [PyData.canLay0], by simp [PyData.depth]⟩
theorem sm_none {n : Nat} : Sm (n + 1) .none := ⟨by simp [PyData.canLay0], by simp [PyData.depth]⟩
theorem sm_str {n : Nat} {s : Str} (h : strOk s = true) : Sm (n + 1) (.str s) := ⟨by simpa [PyData.canLay0] using h, by simp [PyData.depth]⟩
theorem Sm.str {n : Nat} {s : Str} (h : Sm n (.str s)) : strOk s = true := by simpa [PyData.canLay0] using h.1
theorem sgn_ok {s : Str} (h : strOk s = true) {c : Nat} (hc : c ∈ s.cps.toList) : strOk (sgn c) = true := by
  unfold strOk at h ⊢
  have h1 := Array.all_eq_true_iff_forall_mem.mp h c (Array.mem_toList_iff.mp hc)
  simpa [sgn] using h1
theorem sm_filter {n : Nat} {ds : List PyData} {p : PyData → Bool} (h : ∀ d ∈ ds, Sm n d) : Sm (n + 1) (.list ((ds.filter p).map fun d => d)) := sm_lst fun d hd => by
  rw [List.map_id'] at hd
  exact h d ((List.mem_filter.mp hd).1)
theorem eqv_nil : ∀ ds : List PyData, PyData.eqv (.list ds) (.list []) = ds.isEmpty
  | [] => by simp [PyData.eqv, PyData.eqvAll]
  | d :: ds => by simp [PyData.eqv, PyData.eqvAll]
theorem eqv_int (a b : Int) : PyData.eqv (.int a) (.int b) = (a == b) := by simp [PyData.eqv]
theorem eqv_str (a b : Str) : PyData.eqv (.str a) (.str b) = (a == b) := by simp [PyData.eqv]
theorem filter_emp {α : Type} (p : α → Bool) : ∀ l : List α, (l.filter p).isEmpty = l.all fun x => !p x
  | [] => rfl
  | x :: l => by
    rw [List.filter_cons, List.all_cons]
    by_cases h : p x = true
    · rw [if_pos h, h]
      rfl
    · rw [if_neg h, filter_emp p l]
      simp [h]
theorem mapb {α : Type} (l : List α) (f : α → Bool) : (l.filter fun _ => true).map (fun c => PyData.bool (f c)) = (l.map f).map PyData.bool := by
  rw [List.filter_eq_self.mpr (fun _ _ => rfl), List.map_map]
  rfl
theorem all_id {α : Type} (l : List α) (f : α → Bool) : (l.map f).all id = l.all f := by rw [List.all_map]; rfl
/-! ### words, rules -/
def loS (c : Nat) : Bool := decide ((sgn c).cps.toList < (("a" : Str)).cps.toList)
def hiS (c : Nat) : Bool := decide ((("z" : Str)).cps.toList < (sgn c).cps.toList)
def wordD : PyData → Bool
  | .str s => (decide ((1 : Int) ≤ (s.length : Nat)) && decide (((s.length : Nat) : Int) ≤ 3)) && s.cps.toList.all fun c => !loS c && !hiS c
  | _ => false
theorem wordD_str (s : Str) : wordD (.str s) = ((decide ((1 : Int) ≤ (s.length : Nat)) && decide (((s.length : Nat) : Int) ≤ 3)) && s.cps.toList.all fun c => !loS c && !hiS c) := rfl
abbrev WSH : List Str := ["left", "right"]
abbrev OSH : List Str := ["same", "first", "last"]
abbrev TSH : List Str := ["wrap", "ahead", "behind"]
def inS (s : Str) (L : List Str) : Bool := L.any fun x => x == s
theorem inD_str (s : Str) (L : List Str) : inD (.str s) (L.map .str) = inS s L := by
  unfold inD inS
  rw [List.any_map]
  exact congrArg (fun f => L.any f) (funext fun x => eqv_str x s)
/-- the last parts of a rule whose first part and shape are right -/
def tailD (s : Str) (ps : List PyData) (n : Int) : Bool :=
  if inS s WSH then decide (ps.length = 1) && wordD (ps.getD 0 .none)
  else if inS s OSH then decide (ps.length = 1) && inB (ps.getD 0 .none) 0 (n - 1)
  else inS s TSH && (decide (ps.length = 2) && ps.all fun d => inB d 0 (n - 1))
def ruleD (d : PyData) (n : Int) : Bool := match d with
  | .tuple (a :: .str s :: p :: ps) => inB a 0 (n - 1) && tailD s (p :: ps) n
  | _ => false
def rulesD (d : PyData) (n : Int) : Bool := match d with
  | .tuple rs => (decide ((1 : Int) ≤ (rs.length : Nat)) && decide (((rs.length : Nat) : Int) ≤ 90)) && rs.all fun r => ruleD r n
  | _ => false
theorem rulesD_tup (rs : List PyData) (n : Int) : rulesD (.tuple rs) n = ((decide ((1 : Int) ≤ (rs.length : Nat)) && decide (((rs.length : Nat) : Int) ≤ 90)) && rs.all fun r => ruleD r n) := rfl
/-- a valid rule, in full -/
theorem ruleD_is {d : PyData} {n : Int} (h : ruleD d n = true) : ∃ (a : Int) (s : Str) (p : PyData) (ps : List PyData), d = .tuple (.int a :: .str s :: p :: ps) ∧ 0 ≤ a ∧ a < n ∧ tailD s (p :: ps) n = true := by
  unfold ruleD at h
  split at h
  · rename_i a s p ps
    rw [Bool.and_eq_true] at h
    obtain ⟨h1, h2⟩ := h
    cases a with
    | int i =>
      unfold inB at h1
      simp only [Bool.and_eq_true, decide_eq_true_eq] at h1
      exact ⟨i, s, p, ps, rfl, h1.1, by omega, h2⟩
    | _ => cases h1
  · cases h
theorem tailD_one {s : Str} {p : PyData} {ps : List PyData} {n : Int} (h : tailD s (p :: ps) n = true) (ho : inS s OSH = true) : ps = [] ∧ ∃ c : Int, p = .int c ∧ 0 ≤ c ∧ c < n := by
  unfold tailD at h
  have hw : inS s WSH = false := by
    unfold inS at ho ⊢
    simp only [List.any_cons, List.any_nil, Bool.or_false, Bool.or_eq_true, beq_iff_eq] at ho
    rcases ho with rfl | rfl | rfl <;> decide +kernel
  rw [hw, if_neg (by decide), if_pos ho, Bool.and_eq_true, decide_eq_true_eq] at h
  obtain ⟨h1, h2⟩ := h
  have e : ps = [] := by
    cases ps with
    | nil => rfl
    | cons _ _ => simp at h1
  subst e
  have h3 : inB p 0 (n - 1) = true := h2
  cases p with
  | int i =>
    unfold inB at h3
    simp only [Bool.and_eq_true, decide_eq_true_eq] at h3
    exact ⟨rfl, i, rfl, h3.1, by omega⟩
  | _ => cases h3
/-! ### steps -/
def isOne (d : PyData) : Bool := match d with
  | .tuple (_ :: .str s :: _) => inS s OSH
  | _ => false
def edge (d : PyData) : Int × Int := match d with
  | .tuple [.int a, _, .int c] => (a, c)
  | _ => (0, 0)
def edges (rs : List PyData) : List (Int × Int) := (rs.filter isOne).map edge
theorem one_is {d : PyData} {n : Int} (h : ruleD d n = true) (ho : isOne d = true) : ∃ (a : Int) (s : Str) (c : Int), d = .tuple [.int a, .str s, .int c] ∧ 0 ≤ a ∧ a < n ∧ 0 ≤ c ∧ c < n ∧ inS s OSH = true := by
  obtain ⟨a, s, p, ps, rfl, h1, h2, h3⟩ := ruleD_is h
  obtain ⟨rfl, c, rfl, h4, h5⟩ := tailD_one h3 ho
  exact ⟨a, s, c, rfl, h1, h2, h4, h5, ho⟩
theorem edges_in {rs : List PyData} {n : Int} (h : ∀ r ∈ rs, ruleD r n = true) (a b : Int) (hm : (a, b) ∈ edges rs) : 0 ≤ a ∧ a < n ∧ 0 ≤ b ∧ b < n := by
  obtain ⟨r, hr, he⟩ := List.mem_map.mp hm
  obtain ⟨h1, h2⟩ := List.mem_filter.mp hr
  obtain ⟨a', s, c, rfl, g1, g2, g3, g4, _⟩ := one_is (h r h1) h2
  cases he
  exact ⟨g1, g2, g3, g4⟩
theorem edges_len (rs : List PyData) : (edges rs).length ≤ rs.length := by
  unfold edges
  rw [List.length_map]
  exact List.length_filter_le _ _
def toD (p : Int × Int) : PyData := .tuple [.int p.1, .int p.2]
def optD : Option Int → PyData
  | some k => .int k
  | none => .none
/-- the least kind that comes back to itself -/
def backK (E : List (Int × Int)) (n : Nat) : Option Int := ((List.range n).find? fun (k : Nat) => (Gm.turns E (k : Int) (n + 1)).contains (k : Int)).map fun k => (k : Int)
theorem backK_bk {E : List (Int × Int)} {n : Nat} (hE : ∀ a b, (a, b) ∈ E → 0 ≤ b ∧ b < (n : Int)) : Gm.BK E n (backK E n) := by
  have key : ∀ k : Nat, (Gm.turns E (k : Int) (n + 1)).contains (k : Int) = true ↔ Gm.Rch E k k := fun k => by
    rw [List.contains_iff_mem]
    exact Gm.turns_all hE k
  unfold backK
  cases h : (List.range n).find? fun (k : Nat) => (Gm.turns E (k : Int) (n + 1)).contains (k : Int) with
  | none =>
    refine .none fun j h0 h1 r => ?_
    have h2 := List.find?_eq_none.mp h j.toNat (List.mem_range.mpr (by omega))
    have e : ((j.toNat : Nat) : Int) = j := by omega
    refine h2 ((key _).mpr ?_)
    rw [e]
    exact r
  | some k =>
    have h1 := List.find?_some h
    have hlt : k < n := List.mem_range.mp (List.mem_of_find?_eq_some h)
    refine .some (k : Int) (by omega) (by omega) ((key k).mp h1) fun j h0 h2 r => ?_
    have e : ((j.toNat : Nat) : Int) = j := by omega
    have hj : j.toNat < k := by omega
    rw [List.find?_range_eq_some] at h
    have h3 := h.2.2 j.toNat hj
    rw [Bool.not_eq_true', ← Bool.not_eq_true] at h3
    refine h3 ((key _).mpr ?_)
    rw [e]
    exact r
/-- what Pairs(kinds, rules) tells -/
def dueD (k r : PyData) : PyData := match k with
  | .int n => if 1 ≤ n ∧ n ≤ 40 then (if rulesD r n = true then (match r with
      | .tuple rs => (match backK (edges rs) n.toNat with | none => .tuple [.str "kept", .int n, r] | some b => .tuple [.str "endless", .int b])
      | _ => .none) else .tuple [.str "rules", r]) else .tuple [.str "number", k]
  | _ => .tuple [.str "number", k]
end K33

namespace K33
open PySem PySem.Spec PyProof.Rows L2 Evl Ex Dx
open PySem.PyData (strOk)

def topS (i : Nat) : Stmt := PySem.Challenge.pw_treestacks_k33_whole_lengths_and_loops.main.body.getD i (.Pass ⟨0, 0, 0, 0⟩)

structure TupC (K : PySem.W.Frag) (mg : Str → Option Value) (x : Str) (L : List Str) : Prop where
  ex : ∃ W, mg x = some (.ref W) ∧ ∀ H, Dd K H (.ref W) (.tuple (L.map .str))
structure TC (K : PySem.W.Frag) (mg : Str → Option Value) : Prop extends TB mg where
  c_MOST_STEPS : ∃ t, mg "MOST_STEPS" = some (.int 90 t)
  c_NOT_LIVE : ∃ t, mg "NOT_LIVE" = some (.int (-1) t)
  c_ENDLESS : ∃ t, mg "ENDLESS" = some (.int (-2) t)
  c_MOST_LETTERS : ∃ t, mg "MOST_LETTERS" = some (.int 3 t)
  c_MOST_RULES : ∃ t, mg "MOST_RULES" = some (.int 90 t)
  c_MOST_KINDS : ∃ t, mg "MOST_KINDS" = some (.int 40 t)
  w_WORD : TupC K mg "WORD_SHAPES" WSH
  w_ONE : TupC K mg "ONE_SHAPES" OSH
  w_TWO : TupC K mg "TWO_SHAPES" TSH

section
variable {P : Program} {w : World} {K : PySem.W.Frag} {mg : Str → Option Value} {base : Heap} {f : Addr} {fd : FuncData}

abbrev s_InvalidNumber_init : Stmt := inClass (topS 7) 0
abbrev N_InvalidNumber_init : List Str := ["self", "value"]
theorem sc_InvalidNumber_init : FnScope N_InvalidNumber_init ["self", "value"] (defScope s_InvalidNumber_init) := ⟨rfl, rfl, rfl, by decide +kernel, rfl, by decide +kernel, by decide +kernel⟩
theorem ok_InvalidNumber {fI G C : Addr} {mc : Value} (F : Fun K "__init__" "InvalidNumber.__init__" s_InvalidNumber_init fI fd) (hg : mg "GraftError" = some (.ref G)) (rd : ClX.CRead K G mc) (gi : PySem.W.findCls K (.ref G) mc "__init__" = some (.val (.builtin "ValueError.__init__"))) (oc : OexC K C) (no : PySem.W.findIn K (.ref C) "value" = some none) :
    FnOk P w K mg base CX0 1 fI fd ["self", "value"] (spInit C "value") := by
  refine F.ok sc_InvalidNumber_init (fun vs H Q E h => ?_) (fun cdv A outer s H vs Q E hr h => ?_)
  · obtain ⟨a, v, rfl, _⟩ := h
    rfl
  · obtain ⟨a, v, rfl, ha, k⟩ := h
    refine ⟨_, (pss_cons (ps_expr (pe_ginit rd gi rfl hg (pa_cons (pv 0) (pa_cons pe_str pa_nil))))
      (pss_one (ps_ost (pv 0) (pv 1)))), ?_⟩
    refine ⟨.ref a, rfl, a, C, _, rfl, (by show 1 ≤ 1000; decide), oc, ha, ?_⟩
    exact ⟨v, rfl, .ref a, rfl, a, C, rfl, oc, no, .inl ⟨ha, fun dx hdx hne => k dx hdx hne⟩⟩
abbrev s_InvalidRules_init : Stmt := inClass (topS 8) 0
abbrev N_InvalidRules_init : List Str := ["self", "value"]
theorem sc_InvalidRules_init : FnScope N_InvalidRules_init ["self", "value"] (defScope s_InvalidRules_init) := ⟨rfl, rfl, rfl, by decide +kernel, rfl, by decide +kernel, by decide +kernel⟩
theorem ok_InvalidRules {fI G C : Addr} {mc : Value} (F : Fun K "__init__" "InvalidRules.__init__" s_InvalidRules_init fI fd) (hg : mg "GraftError" = some (.ref G)) (rd : ClX.CRead K G mc) (gi : PySem.W.findCls K (.ref G) mc "__init__" = some (.val (.builtin "ValueError.__init__"))) (oc : OexC K C) (no : PySem.W.findIn K (.ref C) "value" = some none) :
    FnOk P w K mg base CX0 1 fI fd ["self", "value"] (spInit C "value") := by
  refine F.ok sc_InvalidRules_init (fun vs H Q E h => ?_) (fun cdv A outer s H vs Q E hr h => ?_)
  · obtain ⟨a, v, rfl, _⟩ := h
    rfl
  · obtain ⟨a, v, rfl, ha, k⟩ := h
    refine ⟨_, (pss_cons (ps_expr (pe_ginit rd gi rfl hg (pa_cons (pv 0) (pa_cons pe_str pa_nil))))
      (pss_one (ps_ost (pv 0) (pv 1)))), ?_⟩
    refine ⟨.ref a, rfl, a, C, _, rfl, (by show 1 ≤ 1000; decide), oc, ha, ?_⟩
    exact ⟨v, rfl, .ref a, rfl, a, C, rfl, oc, no, .inl ⟨ha, fun dx hdx hne => k dx hdx hne⟩⟩
abbrev s_Endless_init : Stmt := inClass (topS 9) 0
abbrev N_Endless_init : List Str := ["self", "kind"]
theorem sc_Endless_init : FnScope N_Endless_init ["self", "kind"] (defScope s_Endless_init) := ⟨rfl, rfl, rfl, by decide +kernel, rfl, by decide +kernel, by decide +kernel⟩
theorem ok_Endless {fI G C : Addr} {mc : Value} (F : Fun K "__init__" "Endless.__init__" s_Endless_init fI fd) (hg : mg "GraftError" = some (.ref G)) (rd : ClX.CRead K G mc) (gi : PySem.W.findCls K (.ref G) mc "__init__" = some (.val (.builtin "ValueError.__init__"))) (oc : OexC K C) (no : PySem.W.findIn K (.ref C) "kind" = some none) :
    FnOk P w K mg base CX0 1 fI fd ["self", "kind"] (spInit C "kind") := by
  refine F.ok sc_Endless_init (fun vs H Q E h => ?_) (fun cdv A outer s H vs Q E hr h => ?_)
  · obtain ⟨a, v, rfl, _⟩ := h
    rfl
  · obtain ⟨a, v, rfl, ha, k⟩ := h
    refine ⟨_, (pss_cons (ps_expr (pe_ginit rd gi rfl hg (pa_cons (pv 0) (pa_cons pe_str pa_nil))))
      (pss_one (ps_ost (pv 0) (pv 1)))), ?_⟩
    refine ⟨.ref a, rfl, a, C, _, rfl, (by show 1 ≤ 1000; decide), oc, ha, ?_⟩
    exact ⟨v, rfl, .ref a, rfl, a, C, rfl, oc, no, .inl ⟨ha, fun dx hdx hne => k dx hdx hne⟩⟩
theorem one_arg {B : Hp} {vs : List V} {d : PyData} (h : DdAll K B vs [d]) : ∃ v, vs = [v] ∧ Dd K B v d := arg1 h
/-- _law_box(script, k): a new box, at a place where none was -/
def spBoxN (K : PySem.W.Frag) : Sp := fun vs H Q _ => ∃ (a : Addr) (k : Int) (ns : List Int) (B : Hp), vs = [.ref a, .int k] ∧ Ex B H ∧ SqL K B a (ns.map V.int) ∧ ns.length ≤ 63 ∧ 0 ≤ k ∧ k ≤ 1000 ∧
  ∀ p B' H', H p = none → Step (fun _ => False) B H B' H' → Ok (Fm.box p) B' H' → Q (.ref p) H'
abbrev s_law_box : Stmt := topS 45
abbrev N_law_box : List Str := ["script", "k", "cell", "great"]
theorem sc_law_box : FnScope N_law_box ["script", "k"] (defScope s_law_box) := ⟨rfl, rfl, rfl, by decide +kernel, rfl, by decide +kernel, by decide +kernel⟩
theorem ok_box (F : Fun K "_law_box" "_law_box" s_law_box f fd) (T : TB mg) : FnOk P w K mg base CX0 1 f fd ["script", "k"] (spBoxN K) := by
  refine F.ok sc_law_box (fun vs H Q E h => ?_) (fun cdv A outer s H vs Q E hr h => ?_)
  · obtain ⟨a, k, ns, B, rfl, _⟩ := h
    rfl
  · obtain ⟨a, k, ns, B, rfl, e, hS, hl, k0, k1, q⟩ := h
    refine ⟨_, (pss_cons (ps_set (i := 2) sc_law_box.nd rfl (Or.inl rfl) (pe_op (op_addK K) (pe_op op_mul pe_int (pv 1)) pe_int))
      (Evl.pss_cut (ps_if (pt_cmpR op_lt (pv 1) (pe_callB (call_lenK K) (by rfl) T.m_len bt_len (pa_cons (pv 0) pa_nil)) (nomark _)) (pss_one (ps_set (i := 2) sc_law_box.nd rfl (Or.inl rfl) (pe_callB call_abs (by rfl) T.m_abs bt_abs (pa_cons (pe_ix (ix_seqK K) (pv 0) (pv 1) (fun _ _ => rfl)) pa_nil)))) (pss_one (ps_if (pt_cmpR op_gt (pe_callB (call_lenK K) (by rfl) T.m_len bt_len (pa_cons (pv 0) pa_nil)) pe_int (nomark _)) (pss_one (ps_set (i := 2) sc_law_box.nd rfl (Or.inl rfl) (pe_op (op_addK K) (pe_op op_mul (pe_op op_mod (pe_callTy call_int1 (by rfl) T.m_int bt_int (pa_cons (pe_callB call_abs (by rfl) T.m_abs bt_abs (pa_cons (pe_ix (ix_seqK K) (pv 0) (pe_op op_mod (pe_callTy call_int1 (by rfl) T.m_int bt_int (pa_cons (pv 1) pa_nil)) (pe_callB (call_lenK K) (by rfl) T.m_len bt_len (pa_cons (pv 0) pa_nil))) (fun _ _ => rfl)) pa_nil)) pa_nil)) pe_int) pe_int) (pe_op op_mul pe_int (pv 1))))) pss_nil)))
      (pss_cons (ps_set (i := 3) sc_law_box.nd rfl (Or.inl rfl) (pe_ix (ix_seqK K) (pe_lst (pa_cons pe_int (pa_cons (pv 2) pa_nil))) (pe_callTy call_int1 (by rfl) T.m_int bt_int (pa_cons (pe_cmpR op_ge (pv 2) (pe_op op_pow pe_int pe_int) (nomark _)) pa_nil)) (fun _ _ => rfl)))
      (pss_one (ps_ret (pe_lst (pa_cons (pv 3) (pa_cons (pe_op (op_addK K) (pe_op op_mod (pe_callTy call_int1 (by rfl) T.m_int bt_int (pa_cons (pe_op (op_addK K) (pe_op op_mul (pe_op op_mod (pe_callTy call_int1 (by rfl) T.m_int bt_int (pa_cons (pv 2) pa_nil)) pe_int) pe_int) (pe_op op_mul pe_int (pv 1))) pa_nil)) pe_int) pe_int) pa_nil)))))))), ?_⟩
    have a0 : At Fm.pure B H B H := At.start (Ok.any e)
    have lenS : ∀ (σ : L2.St) B1, σ[0]? = some (some (V.ref a)) → Ex B B1 → ED Fm.pure K (tCB (fun xs H Q => ∃ x n, xs = [x] ∧ LenV K x H n ∧ Q (.int (n : Nat)) H) (tCons (tVar 0) tNil)) σ B1 (.int (ns.length : Nat)) := by
      intro σ B1 hσ e1 B2 e2 H2 j2 Q q
      exact ⟨.ref a, hσ, .ref a, ns.length, rfl, .inl ⟨_, ex_l j2.e (ex_l (e1.trans e2) hS), by rw [List.length_map]⟩, q _ B2 H2 (Step.refl j2.e) j2 (.int _)⟩
    have ixS : ∀ (σ : L2.St) B1 (i : Int) (ti : TE), σ[0]? = some (some (V.ref a)) → Ex B B1 → ED Fm.pure K ti σ B1 (.int i) → 0 ≤ i → i < (ns.length : Nat) → EV Fm.pure (tOp (rIx K) (tVar 0) ti) σ B1 (fun v _ => ∃ n : Int, v = .int n) := by
      intro σ B1 i ti hσ e1 hi h0 h1 B2 e2 H2 j2 Q q
      refine ⟨.ref a, hσ, hi B2 e2 H2 j2 _ fun v B3 H3 s3 j3 g => ?_⟩
      obtain rfl := dd_int g
      have hlt : i.toNat < ns.length := by omega
      have hx : (ns.map V.int)[i.toNat]? = some (V.int ns[i.toNat]) := by rw [List.getElem?_map, List.getElem?_eq_getElem hlt]; rfl
      refine .inl ⟨a, _, i, _, rfl, rfl, ex_l j3.e (ex_l ((e1.trans e2).trans s3.bb) hS), at_of (by omega) hx, q _ B3 H3 s3 j3 ⟨_, rfl⟩⟩
    have absE : ∀ (σ : L2.St) B1 (te : TE), EV Fm.pure te σ B1 (fun v _ => ∃ n : Int, v = .int n) → EV Fm.pure (tCB (fun xs H Q => ∃ i, xs = [.int i] ∧ Q (.int (if i < 0 then -i else i)) H) (tCons te tNil)) σ B1 (fun v _ => ∃ n : Int, v = .int n) := by
      intro σ B1 te h B2 e2 H2 j2 Q q
      exact h B2 e2 H2 j2 _ fun v B3 H3 s3 j3 ⟨n, hn⟩ => ⟨n, by rw [hn], q _ B3 H3 s3 j3 ⟨_, rfl⟩⟩
    have intE : ∀ (σ : L2.St) B1 (te : TE), EV Fm.pure te σ B1 (fun v _ => ∃ n : Int, v = .int n) → EV Fm.pure (tCB (fun xs H Q => (∃ i, xs = [.int i] ∧ Q (.int i) H) ∨ ∃ k, xs = [.bl k] ∧ Q (.int (if k then 1 else 0)) H) (tCons te tNil)) σ B1 (fun v _ => ∃ n : Int, v = .int n) := by
      intro σ B1 te h B2 e2 H2 j2 Q q
      exact h B2 e2 H2 j2 _ fun v B3 H3 s3 j3 ⟨n, hn⟩ => .inl ⟨n, by rw [hn], q _ B3 H3 s3 j3 ⟨_, rfl⟩⟩
    have upI : Upc (fun v _ => ∃ n : Int, v = V.int n) := fun _ _ _ _ h => h
    refine qv_asg a0 (ed_op (ed_op ed_int (ed_var rfl (.int k)) (rd_mul (.inl ⟨by decide, by decide⟩))) ed_int rd_add) fun v B1 H1 e1 a1 hv => ?_
    obtain rfl := dd_int hv
    refine ⟨fun σ' H' => ∃ c : Int, ∃ B', σ' = [some (.ref a), some (.int k), some (.int c), none] ∧ Ex B B' ∧ At Fm.pure B H B' H', ?_, ?_⟩
    · refine sv_if a1 (et_cmp (ed_op (ed_var rfl (.int k)) (lenS _ B1 rfl e1) rd_lt)) (fun hk B2 H2 e2 a2 => ?_) (fun hk B2 H2 e2 a2 => ?_)
      · have hk' : k < (ns.length : Nat) := of_decide_eq_true hk
        refine sv_asg a2 (absE _ B2 _ (ixS _ B2 k _ rfl (e1.trans e2) (ed_var rfl (.int k)) k0 hk')) fun v B3 H3 e3 a3 hv => ?_
        obtain ⟨c, rfl⟩ := hv
        exact ⟨c, B3, rfl, (e1.trans e2).trans e3, a3⟩
      · refine sv_if a2 (et_cmp (ed_op (lenS _ B2 rfl (e1.trans e2)) ed_int rd_gt)) (fun hz B3 H3 e3 a3 => ?_) (fun hz B3 H3 e3 a3 => ?_)
        · have hz' : (0 : Int) < (ns.length : Nat) := of_decide_eq_true hz
          have eb := (e1.trans e2).trans e3
          have ei : ED Fm.pure K (tOp (rI (fun _ j => 0 < j) fun i j => .int (i % j)) (tCB (fun xs H Q => (∃ i, xs = [.int i] ∧ Q (.int i) H) ∨ ∃ k, xs = [.bl k] ∧ Q (.int (if k then 1 else 0)) H) (tCons (tVar 1) tNil)) (tCB (fun xs H Q => ∃ x n, xs = [x] ∧ LenV K x H n ∧ Q (.int (n : Nat)) H) (tCons (tVar 0) tNil))) [some (.ref a), some (.int k), some (.int (7919 * k + 101)), none] B3 (.int (k % (ns.length : Nat))) :=
            ed_op (ev_cb (eds_cons (ed_var rfl (.int k)) eds_nil) rc_int1) (lenS _ B3 rfl eb) (rd_mod hz')
          have e5 := intE _ B3 _ (absE _ B3 _ (ixS _ B3 _ _ rfl eb ei (Int.emod_nonneg k (by omega)) (Int.emod_lt_of_pos k hz')))
          refine sv_asg (P := fun v _ => ∃ n : Int, v = .int n) a3 (ev_op (ev_op (P' := DD K (.int 31)) (Z := fun v _ => ∃ n : Int, v = .int n) (ev_op (P' := DD K (.int 1000000007)) (Z := fun v _ => ∃ n : Int, v = .int n) e5 ed_int upI ?_) ed_int upI ?_) (P' := DD K (.int (7919 * k))) (ed_op ed_int (ed_var rfl (.int k)) (rd_mul (.inl ⟨by decide, by decide⟩))) upI ?_) fun v B4 H4 e4 a4 hv => ?_
          · intro B6 _ H6 u v j6 ⟨n, hu⟩ hv Q q
            exact ⟨n, 1000000007, hu, dd_int hv, (show (0 : Int) < 1000000007 by decide), q _ B6 H6 (Step.refl j6.e) j6 ⟨_, rfl⟩⟩
          · intro B6 _ H6 u v j6 ⟨n, hu⟩ hv Q q
            exact ⟨n, 31, hu, dd_int hv, .inr ⟨by decide, by decide⟩, q _ B6 H6 (Step.refl j6.e) j6 ⟨_, rfl⟩⟩
          · intro B6 _ H6 u v j6 ⟨n, hu⟩ hv Q q
            exact .inl ⟨n, _, hu, dd_int hv, q _ B6 H6 (Step.refl j6.e) j6 ⟨_, rfl⟩⟩
          obtain ⟨c, rfl⟩ := hv
          exact ⟨c, B4, rfl, eb.trans e4, a4⟩
        · exact ⟨_, B3, rfl, (e1.trans e2).trans e3, a3⟩
    · rintro σ' H' ⟨c, B4, rfl, e4, a4⟩
      refine qv_asg (P := fun v _ => ∃ n : Int, v = .int n) a4 (ev_op (P := DD K (.list [.int 0, .int c])) (P' := DD K (.int (if decide ((10 : Int) ^ (18 : Int).toNat ≤ c) = true then 1 else 0))) (ed_lst (eds_cons ed_int (eds_cons (ed_var rfl (.int c)) eds_nil))) (ev_cb (eds_cons (ed_op (ed_var rfl (.int c)) (ed_op ed_int ed_int (rd_pow ⟨by decide, by decide, by decide⟩)) rd_ge) eds_nil) rc_intB) upc_dd ?_) fun v B5 H5 e5 a5 hv => ?_
      · intro B6 _ H6 u v j6 hu hv Q q
        obtain rfl := dd_int hv
        refine rd_ixL (F := Fm.pure) (K := K) (B := B6) (d := .int (if decide ((10 : Int) ^ (18 : Int).toNat ≤ c) = true then c else 0)) ?_ B6 (Ex.refl B6) H6 u _ j6 hu (.int _) Q fun w B7 H7 s7 k7 g => q w B7 H7 s7 k7 ⟨_, dd_int g⟩
        by_cases hc : decide ((10 : Int) ^ (18 : Int).toNat ≤ c) = true
        · rw [if_pos hc, if_pos hc]
          rfl
        · rw [if_neg hc, if_neg hc]
          rfl
      obtain ⟨g, rfl⟩ := hv
      refine sv_retL (K := K) (ds := [.int g, .int (((c % 1000000007 * 48271 + 613 * k) % 2147483647) + 1)]) a5 (eds_cons (ed_var rfl (.int g)) (eds_cons (ed_op (ed_op (ev_cb (eds_cons (ed_op (ed_op (ed_op (ev_cb (eds_cons (ed_var rfl (.int c)) eds_nil) rc_int1) ed_int (rd_mod (by decide))) ed_int (rd_mul (.inr ⟨by decide, by decide⟩))) (ed_op ed_int (ed_var rfl (.int k)) (rd_mul (.inl ⟨by decide, by decide⟩))) rd_add) eds_nil) rc_int1) ed_int (rd_mod (by decide))) ed_int rd_add) eds_nil)) fun vs B6 H6 s6 j6 g6 => ⟨?_, fun p hp => ?_⟩
      · rw [DdAll.len g6]
        show 2 ≤ sizeLine
        decide
      · cases g6 with
        | cons g1 t =>
          cases t with
          | cons g2 t =>
            cases t
            obtain rfl := dd_int g1
            obtain rfl := dd_int g2
            have a6 := a5.next s6 j6
            have hpB : B6 p = none := fresh_back j6.e hp
            have s7 : Step (fun _ => False) B6 H6 B6 (upd H6 p (.lst [.int g, .int (((c % 1000000007 * 48271 + 613 * k) % 2147483647) + 1)])) :=
              ⟨Ex.refl B6, fun x o h => by rw [upd_ne (ne_of_none h hpB)]; exact j6.e x o h, fun x o _ h => by rw [upd_ne (ne_of_none h hp)]; exact h, fun x h _ => h, fun x n => by
                have hx : x ≠ p := fun z => n (z ▸ hp)
                rw [upd_ne hx]
                exact n, fun x n => n.upd fun z => n.ne (z ▸ hp)⟩
            exact q p B6 _ (fresh_back a6.st.ex hp) (a6.st.trans s7) ⟨s7.bh, ⟨g, _, upd_same⟩, fun x m => by
              have m' : x = p := m
              rw [m']
              exact hpB⟩
abbrev s_law_take : Stmt := topS 46
abbrev N_law_take : List Str := ["box", "many", "got"]
theorem sc_law_take : FnScope N_law_take ["box", "many"] (defScope s_law_take) := ⟨rfl, rfl, rfl, by decide +kernel, rfl, by decide +kernel, by decide +kernel⟩
theorem ok_take (F : Fun K "_law_take" "_law_take" s_law_take f fd) (T : TB mg) : FnOk P w K mg base CX0 1 f fd ["box", "many"] (spTake K) := by
  refine F.ok sc_law_take (fun vs H Q E h => ?_) (fun cdv A outer s H vs Q E hr h => ?_)
  · obtain ⟨p, us, B, ds, rfl, ok, hu, ⟨m, rfl, hm⟩, k⟩ := h
    cases hu with
    | cons h1 t =>
      cases t
      rfl
  · obtain ⟨p, us, B, ds, rfl, ok, hu, ⟨m, rfl, h0, h1⟩, k⟩ := h
    cases hu with
    | cons hm t =>
      cases t
      obtain rfl := dd_int hm
      obtain ⟨g, s, hp⟩ := ok.j
      refine ⟨_, (pss_cons (ps_if (pt_cmpR op_gt (pe_ix (ix_seqK K) (pv 0) pe_int (fun _ _ => rfl)) pe_int (nomark _)) (pss_cons (ps_set (i := 2) sc_law_take.nd rfl (Or.inl rfl) (pe_op op_mod (pe_callTy call_int1 (by rfl) T.m_int bt_int (pa_cons (pe_ix (ix_seqK K) (pv 0) pe_int (fun _ _ => rfl)) pa_nil)) (pv 1)))
      (pss_cons (ps_asg (pe_op op_fdiv (pe_ix (ix_seqK K) (pv 0) pe_int (fun _ _ => rfl)) (pv 1)) (pg_sub (pv 0) pe_int set_list))
      (pss_one (ps_ret (pv 2))))) pss_nil)
      (pss_cons (ps_asg (pe_op op_mod (pe_callTy call_int1 (by rfl) T.m_int bt_int (pa_cons (pe_op (op_addK K) (pe_op op_mul (pe_ix (ix_seqK K) (pv 0) pe_int (fun _ _ => rfl)) pe_int) pe_int) pa_nil)) pe_int) (pg_sub (pv 0) pe_int set_list))
      (pss_one (ps_ret (pe_op op_mod (pe_callTy call_int1 (by rfl) T.m_int bt_int (pa_cons (pe_op op_fdiv (pe_ix (ix_seqK K) (pv 0) pe_int (fun _ _ => rfl)) pe_int) pa_nil)) (pv 1)))))), ?_⟩
      have a : At Fm.pure H H H H := At.start (Ok.any (Ex.refl H))
      have hb : Dd K H (.ref p) (.list [.int g, .int s]) := .lst hp (by show 2 ≤ sizeLine; decide) (.cons (.int g) (.cons (.int s) .nil))
      have fin : ∀ (g' s' got : Int) B1 H1, At Fm.pure H H B1 H1 → 0 ≤ got → got < m → Q (.int got) (upd H1 p (.lst [.int g', .int s'])) := by
        intro g' s' got B1 H1 a1 q0 q1
        have eH : Ex H H1 := a1.st.ex
        have st : Step (fun x => x = p) B H B (upd H1 p (.lst [.int g', .int s'])) := ⟨Ex.refl B, fun x o h => by
            have hx : x ≠ p := fun z => by
              rw [z, ok.av p rfl] at h
              cases h
            rw [upd_ne hx]
            exact eH x o (ok.e x o h), fun x o n h => by
            rw [upd_ne n]
            exact eH x o h, fun x h _ => h, fun x n => by
            by_cases hx : x = p
            · rw [hx, upd_same]
              exact fun z => nomatch z
            · rw [upd_ne hx]
              exact a1.st.live x n, fun x n => by
            by_cases hx : x = p
            · rw [hx]
              exact liv_set trivial
            · exact (a1.st.liv x n).upd hx⟩
        exact k _ B _ st ⟨st.bh, ⟨g', s', upd_same⟩, ok.av⟩ ⟨got, m, rfl, rfl, q0, q1⟩
      have hm0 : (m : Int) ≠ 0 := by omega
      refine qv_when a (et_cmp (ed_op (ed_op (ed_var rfl hb) ed_int (rd_ixL (d := .int g) rfl)) ed_int rd_gt)) (fun _ B1 H1 e1 a1 => ?_) (fun _ B1 H1 e1 a1 => ?_)
      · refine qv_asg a1 (ed_op (ev_cb (eds_cons (ed_op (ed_var rfl (hb.up e1)) ed_int (rd_ixL (d := .int g) rfl)) eds_nil) rc_int1) (ed_var rfl (.int m)) (rd_mod h0)) fun v B2 H2 e2 a2 hv => ?_
        obtain rfl := dd_int hv
        have ev : ED Fm.pure K (tOp (rI CDiv fun i j => .int (i / j)) (tOp (rIx K) (tVar 0) (tC (.int 0))) (tVar 1)) [some (.ref p), some (.int m), some (.int (g % m))] B2 (.int (g / m)) :=
          ed_op (ed_op (ed_var rfl (hb.up (e1.trans e2))) ed_int (rd_ixL (d := .int g) rfl)) (ed_var rfl (.int m)) (rd_fdiv ⟨h0, h1⟩)
        refine ev B2 (Ex.refl B2) H2 a2.j _ fun v B3 H3 s3 j3 hv => ?_
        obtain rfl := dd_int hv
        have a3 := a2.next s3 j3
        have hp3 : H3 p = some (.lst [.int g, .int s]) := a3.st.ex p _ hp
        exact ⟨.ref p, rfl, p, _, 0, 0, rfl, rfl, hp3, rfl, _, rfl, fin _ _ _ B3 H3 a3 (Int.emod_nonneg g hm0) (Int.emod_lt_of_pos g h0)⟩
      · have ev : ED Fm.pure K (tOp (rI (fun _ j => 0 < j) fun i j => .int (i % j)) (tCB (fun xs H Q => (∃ i, xs = [.int i] ∧ Q (.int i) H) ∨ ∃ k, xs = [.bl k] ∧ Q (.int (if k then 1 else 0)) H) (tCons (tOp (rAddA K) (tOp (rI CMul fun i j => .int (i * j)) (tOp (rIx K) (tVar 0) (tC (.int 1))) (tC (.int 39373))) (tC (.int 69621))) tNil)) (tC (.int 2147483647))) [some (.ref p), some (.int m), none] B1 (.int ((s * 39373 + 69621) % 2147483647)) :=
          ed_op (ev_cb (eds_cons (ed_op (ed_op (ed_op (ed_var rfl (hb.up e1)) ed_int (rd_ixL (d := .int s) rfl)) ed_int (rd_mul (.inr ⟨by decide, by decide⟩))) ed_int rd_add) eds_nil) rc_int1) ed_int (rd_mod (by decide))
        refine ev B1 (Ex.refl B1) H1 a1.j _ fun v B2 H2 s2 j2 hv => ?_
        obtain rfl := dd_int hv
        have a2 := a1.next s2 j2
        have hp2 : H2 p = some (.lst [.int g, .int s]) := a2.st.ex p _ hp
        refine ⟨.ref p, rfl, p, _, 1, 1, rfl, rfl, hp2, rfl, ?_⟩
        have hup : upd H2 p (.lst [.int g, .int ((s * 39373 + 69621) % 2147483647)]) p = some (.lst [.int g, .int ((s * 39373 + 69621) % 2147483647)]) := upd_same
        refine ⟨.ref p, rfl, .inl ⟨p, _, 1, .int ((s * 39373 + 69621) % 2147483647), rfl, rfl, sq_of hup, rfl, ?_⟩⟩
        refine ⟨_, 8191, rfl, rfl, ⟨by decide, by decide⟩, .inl ⟨_, rfl, _, rfl, _, m, rfl, rfl, h0, ?_⟩⟩
        exact fin _ _ _ B2 H2 a2 (Int.emod_nonneg _ hm0) (Int.emod_lt_of_pos _ h0)
abbrev s_law_pick : Stmt := topS 47
abbrev N_law_pick : List Str := ["box", "some"]
theorem sc_law_pick : FnScope N_law_pick ["box", "some"] (defScope s_law_pick) := ⟨rfl, rfl, rfl, by decide +kernel, rfl, by decide +kernel, by decide +kernel⟩
theorem ok_pick (F : Fun K "_law_pick" "_law_pick" s_law_pick f fd) (T : TB mg) (C_law_take : Callee P w K mg base "_law_take" 1 ["box", "many"] (spTake K)) : FnOk P w K mg base CX0 2 f fd ["box", "some"] (spPick K) := by
  refine F.ok sc_law_pick (fun vs H Q E h => ?_) (fun cdv A outer s H vs Q E hr h => ?_)
  · obtain ⟨p, us, B, ds, rfl, ok, hu, ⟨d, xs, rfl, _⟩, k⟩ := h
    cases hu with
    | cons h1 t =>
      cases t
      rfl
  · obtain ⟨p, us, B, ds, rfl, ok, hu, ⟨d, xs, rfl, hd, hne, hlt⟩, k⟩ := h
    cases hu with
    | cons hm t =>
      cases t
      refine ⟨_, (pss_one (ps_ret (pe_ix (ix_seqK K) (pv 1) (pe_callC C_law_take (hr.mono (by decide)) rfl pass0 (pa_cons (pv 0) (pa_cons (pe_callB (call_lenK K) (by rfl) T.m_len bt_len (pa_cons (pv 1) pa_nil)) pa_nil))) (fun _ _ => rfl)))), ?_⟩
      have a : At (Fm.box p) B H B H := At.start ok
      have hl : hasLen d = true := by rcases hd with rfl | rfl <;> rfl
      have hn : lenD d = (xs.length : Nat) := by rcases hd with rfl | rfl <;> rfl
      have hpos : 0 < xs.length := List.length_pos_iff.mpr hne
      refine sv_ret (P := fun v B => ∃ e, e ∈ xs ∧ Dd K B v e) a (ev_op (ed_var rfl hm) (ev_take (m := lenD d) rfl (ev_cb (eds_cons (ed_var rfl hm) eds_nil) (rc_len hl)) (by rw [hn]; omega) (by rw [hn]; omega)) upc_dd (by rw [hn]; exact rv_pick hd)) fun v B1 H1 e1 a1 ⟨e, he, hv⟩ => ?_
      refine k v B1 H1 a1.st a1.j ⟨d, e, rfl, ?_, hv⟩
      rcases hd with rfl | rfl <;> exact he
abbrev s_is_integer : Stmt := topS 2
abbrev N_is_integer : List Str := ["value"]
theorem sc_is_integer : FnScope N_is_integer ["value"] (defScope s_is_integer) := ⟨rfl, rfl, rfl, by decide +kernel, rfl, by decide +kernel, by decide +kernel⟩
theorem ok_is_integer (F : Fun K "is_integer" "is_integer" s_is_integer f fd) (T : TB mg) : FnOk P w K mg base CX0 1 f fd ["value"] (spInt K) := by
  refine F.ok sc_is_integer (fun vs H Q E h => ?_) (fun cdv A outer s H vs Q E hr h => ?_)
  · obtain ⟨B, ds, e, hd, ⟨d, rfl⟩, q⟩ := h
    obtain ⟨v, rfl, _⟩ := one_arg hd
    rfl
  · obtain ⟨B, ds, e, hd, ⟨d, rfl⟩, q⟩ := h
    obtain ⟨v, rfl, hv⟩ := one_arg hd
    refine ⟨_, (pss_one (ps_ret (pe_and (pe_callB (call_isiK1 K) (by rfl) T.m_isinstance bt_isinstance (pa_cons (pv 0) (pa_cons (pe_bltn (v := .ty "int") (by rfl) T.m_int bt_int rfl) pa_nil))) (pe_one (pe_not (pe_callB (call_isiK1 K) (by rfl) T.m_isinstance bt_isinstance (pa_cons (pv 0) (pa_cons (pe_bltn (v := .ty "bool") (by rfl) T.m_bool bt_bool rfl) pa_nil)))))))), ?_⟩
    have a : At Fm.pure B H B H := At.start (Ok.any e)
    have e2 : (isIntD d && !isBoolD d) = isI d := by cases d <;> rfl
    refine sv_ret (P := DD K (.bool (isI d))) a (ed_is (ed_andV (ed_isi (ed_var rfl hv) (kit_int d)) (fun _ => ed_notV (ed_isi (ed_var rfl hv) (kit_bool d)))) (by rw [e2])) fun v B1 H1 e1 a1 h1 => ?_
    exact q v B1 H1 a1.st h1
abbrev s_is_between : Stmt := topS 3
abbrev N_is_between : List Str := ["value", "low", "high"]
theorem sc_is_between : FnScope N_is_between ["value", "low", "high"] (defScope s_is_between) := ⟨rfl, rfl, rfl, by decide +kernel, rfl, by decide +kernel, by decide +kernel⟩
theorem ok_is_between (F : Fun K "is_between" "is_between" s_is_between f fd) (T : TB mg) (C_is_integer : Callee P w K mg base "is_integer" 1 ["value"] (spInt K)) : FnOk P w K mg base CX0 2 f fd ["value", "low", "high"] (spBetween K) := by
  refine F.ok sc_is_between (fun vs H Q E h => ?_) (fun cdv A outer s H vs Q E hr h => ?_)
  · obtain ⟨B, ds, e, hd, ⟨d, lo, hi, rfl⟩, q⟩ := h
    exact hd.len
  · obtain ⟨B, ds, e, hd, ⟨d, lo, hi, rfl⟩, q⟩ := h
    cases hd with
    | cons hv t =>
      cases t with
      | cons hlo t =>
        cases t with
        | cons hhi t =>
          cases t
          obtain rfl := dd_int hlo
          obtain rfl := dd_int hhi
          refine ⟨_, (pss_one (ps_ret (pe_and (pe_callC C_is_integer (hr.mono (by decide)) rfl pass0 (pa_cons (pv 0) pa_nil)) (pe_one (pe_chain op_le op_le (pv 1) (pv 0) (pv 2)))))), ?_⟩
          have a : At Fm.pure B H B H := At.start (Ok.any e)
          refine sv_ret (P := DD K (fBetween [d, .int lo, .int hi])) a (ed_is (ed_andV (b := isI d) (c := match d with | .int i => decide (lo ≤ i) && decide (i ≤ hi) | _ => false) (ed_F (eds_cons (ed_var rfl hv) eds_nil) ⟨d, rfl⟩ rfl) (fun hi1 => ?_)) ?_) fun v B1 H1 e1 a1 h1 => ?_
          · cases d with
            | int i =>
              obtain rfl := dd_int hv
              exact ed_chain (ed_var rfl (.int lo)) (ed_var rfl (.int i)) rd_le (fun _ => ⟨_, ed_var rfl (.int hi), rd_le⟩)
            | _ => cases hi1
          · cases d <;> rfl
          · exact q v B1 H1 a1.st h1
end
end K33

namespace K33
open PySem PySem.Spec PyProof.Rows L2 Evl Ex Dx
open PySem.PyData (strOk)

section
variable {P : Program} {w : World} {K : PySem.W.Frag} {mg : Str → Option Value} {base : Heap} {f : Addr} {fd : FuncData}

def fWord : List PyData → PyData
  | [d] => .bool (wordD d)
  | _ => .none
def fRule : List PyData → PyData
  | [d, .int n] => .bool (ruleD d n)
  | _ => .none
def fRules : List PyData → PyData
  | [d, .int n] => .bool (rulesD d n)
  | _ => .none
def numsD (d : PyData) (n : Int) : Bool := match d with
  | .tuple ds => ds.all fun e => inB e 0 (n - 1)
  | _ => false
def fNums : List PyData → PyData
  | [d, .int n] => .bool (numsD d n)
  | _ => .none
def preW (ds : List PyData) : Prop := ∃ d, ds = [d] ∧ Sm 60 d
def preR (ds : List PyData) : Prop := ∃ d n, ds = [d, .int n] ∧ Sm 60 d
theorem leL (ds : List PyData) (k : Int) : decide (((ds.length : Nat) : Int) < k) = decide ((ds.length : Int) < k) := rfl
theorem three (d : PyData) : (∃ x y p ps, d = .tuple (x :: y :: p :: ps)) ∨ (isTupD d = false ∧ ∀ n, ruleD d n = false) ∨ (∃ ds, d = .tuple ds ∧ ds.length < 3 ∧ ∀ n, ruleD d n = false) := by
  cases d with
  | tuple ds =>
    rcases ds with _ | ⟨x, _ | ⟨y, _ | ⟨p, ps⟩⟩⟩
    · exact .inr (.inr ⟨_, rfl, by simp, fun _ => rfl⟩)
    · exact .inr (.inr ⟨_, rfl, by simp, fun _ => rfl⟩)
    · exact .inr (.inr ⟨_, rfl, by simp, fun _ => by unfold ruleD; split <;> simp_all⟩)
    · exact .inl ⟨_, _, _, _, rfl⟩
  | _ => exact .inr (.inl ⟨rfl, fun _ => rfl⟩)
theorem at3_0 {x y p : PyData} {ps : List PyData} : atI (x :: y :: p :: ps) 0 = some x := atI_nat (j := 0) rfl
theorem at3_1 {x y p : PyData} {ps : List PyData} : atI (x :: y :: p :: ps) 1 = some y := atI_nat (j := 1) rfl
theorem at3_2 {x y p : PyData} {ps : List PyData} : atI (x :: y :: p :: ps) 2 = some p := atI_nat (j := 2) rfl
theorem isStr_is {d : PyData} (h : isStrD d = true) : ∃ s, d = .str s := by
  cases d with
  | str s => exact ⟨s, rfl⟩
  | _ => cases h
theorem cut2 {x y : PyData} {l : List PyData} : cutL (x :: y :: l) (some 2) none = l := by
  unfold cutL HT.sIx
  simp
theorem cut1 {x : PyData} {l : List PyData} : cutL (x :: l) none (some 1) = [x] := by
  unfold cutL HT.sIx
  simp
theorem lenk (x y p : PyData) (ps : List PyData) (k : Nat) : PyData.eqv (.int (lenD (.tuple (x :: y :: p :: ps)))) (.int ((k : Int) + 2)) = decide ((p :: ps).length = k) := by
  rw [eqv_int]
  show ((((ps.length + 1 + 1 + 1 : Nat)) : Int) == (k : Int) + 2) = decide (ps.length + 1 = k)
  rw [Bool.eq_iff_iff, beq_iff_eq, decide_eq_true_eq]
  omega
theorem pyStr {F : Fm} {σ : L2.St} {B : Hp} {x y z : Str} (hx : x.length ≤ sizeLine := by decide) (hy : y.length ≤ sizeLine := by decide) (hz : z.length ≤ sizeLine := by decide) : ED F K (tLst (tCons (tC (.str x)) (tCons (tC (.str y)) (tCons (tC (.str z)) tNil)))) σ B (.list ([x, y, z].map .str)) := ed_lst (eds_cons (ed_str hx) (eds_cons (ed_str hy) (eds_cons (ed_str hz) eds_nil)))
theorem pyStr2 {F : Fm} {σ : L2.St} {B : Hp} {x y : Str} (hx : x.length ≤ sizeLine := by decide) (hy : y.length ≤ sizeLine := by decide) : ED F K (tLst (tCons (tC (.str x)) (tCons (tC (.str y)) tNil))) σ B (.list ([x, y].map .str)) := ed_lst (eds_cons (ed_str hx) (eds_cons (ed_str hy) eds_nil))
theorem flatS (L : List Str) : (L.map PyData.str).all flatD = true := by
  rw [List.all_map]
  exact List.all_eq_true.mpr fun _ _ => rfl
theorem inSL {F : Fm} {σ : L2.St} {B : Hp} {ta tb : TE} {s : Str} {L : List Str} (h1 : ED F K ta σ B (.str s)) (h2 : ED F K tb σ B (.list (L.map .str))) : ED F K (tOp (rIn K false) ta tb) σ B (.bool (inS s L)) := ed_is (ed_op h1 h2 (rd_isin (.inl rfl) rfl (flatS L))) (by rw [inD_str])
theorem inST {F : Fm} {σ : L2.St} {B : Hp} {ta tb : TE} {s : Str} {L : List Str} (h1 : ED F K ta σ B (.str s)) (h2 : ED F K tb σ B (.tuple (L.map .str))) : ED F K (tOp (rIn K false) ta tb) σ B (.bool (inS s L)) := ed_is (ed_op h1 h2 (rd_isin (.inr rfl) rfl (flatS L))) (by rw [inD_str])

abbrev s_is_word : Stmt := topS 4
abbrev N_is_word : List Str := ["value", "sign"]
theorem sc_is_word : FnScope N_is_word ["value"] (defScope s_is_word) := ⟨rfl, rfl, rfl, by decide +kernel, rfl, by decide +kernel, by decide +kernel⟩
theorem ok_is_word (F : Fun K "is_word" "is_word" s_is_word f fd) (T : TC K mg) : FnOk P w K mg base CX0 1 f fd ["value"] (spF K pre1 fWord) := by
  refine F.ok sc_is_word (fun vs H Q E h => ?_) (fun cdv A outer s H vs Q E hr h => ?_)
  · obtain ⟨B, ds, e, hd, ⟨d, rfl⟩, q⟩ := h
    exact hd.len
  · obtain ⟨B, ds, e, hd, ⟨d, rfl⟩, q⟩ := h
    obtain ⟨v, rfl, hv⟩ := arg1 hd
    refine ⟨_, (pss_cons (ps_if (PW.pt (pw_or (pt_not (pt_val (pe_callB (call_isiK1 K) (by rfl) T.m_isinstance bt_isinstance (pa_cons (pv 0) (pa_cons (pe_bltn (v := .ty "str") (by rfl) T.m_str bt_str rfl) pa_nil))))) (pw_or1 (pt_not (pt_chain op_le op_le pe_int (pe_callB (call_lenK K) (by rfl) T.m_len bt_len (pa_cons (pv 0) pa_nil)) (pe_gint rfl T.c_MOST_LETTERS)))))) (pss_one (ps_ret pe_bl)) pss_nil)
      (pss_one (ps_ret (pe_callB (cr_allK K) (by rfl) T.m_all bt_all (pa_cons (pe_lc (own := [("sign", 1)]) rfl sc_is_word.nd (pi_str (pv 0)) (blkOk_by (own := [("sign", 1)]) (N := N_is_word) (sc := defScope s_is_word) (by decide +kernel)) (fun _ _ _ _ _ => pg_name (i := 1) sc_is_word.nd rfl (Or.inl rfl)) (fun _ _ _ _ _ => pts_nil) (fun _ _ _ _ _ => (pe_chain op_le_str op_le_str pe_str (pv 1) pe_str))) pa_nil))))), ?_⟩
    have a : At Fm.pure B H B H := At.start (Ok.any e)
    have fin : ∀ b B1 H1, At Fm.pure B H B1 H1 → b = wordD d → Q (.bl b) H1 := fun b B1 H1 a1 eb => by
      refine q _ B1 H1 a1.st ?_
      show Dd K B1 (.bl b) (.bool (wordD d))
      rw [eb]
      exact .bl _
    by_cases hs : isStrD d = true
    · obtain ⟨x, rfl⟩ := isStr_is hs
      refine qv_when (b := !(decide ((1 : Int) ≤ (x.length : Nat)) && decide (((x.length : Nat) : Int) ≤ 3))) a (et_is (et_or (b := false) (et_not (et_val (ed_isi (ed_var rfl hv) (kit_str _)))) fun _ => et_not (et_cmp (ed_chain (ed_int) (ev_cb (eds_cons (ed_var rfl hv) eds_nil) (rc_len rfl)) rd_le fun _ => ⟨_, ed_int, rd_le⟩))) (by rfl)) (fun hb B1 H1 e1 a1 => ?_) (fun hb B1 H1 e1 a1 => ?_)
      · refine sv_ret (P := DD K (.bool false)) a1 ed_bl fun v1 B2 H2 e2 a2 h2 => ?_
        obtain rfl := dd_bl h2
        refine fin _ B2 H2 a2 ?_
        rw [wordD_str]
        rw [Bool.not_eq_true'] at hb
        rw [hb]
        rfl
      · refine sv_ret (P := DD K (.bool (wordD (.str x)))) a1 (ed_is (ev_cb (eds_cons (ed_is (ed_lcS (fun _ => true) (fun c => .bool (!loS c && !hiS c)) (ed_var rfl (hv.up e1)) (fun _ => rfl) (fun c B2 _ _ => et_yes) (fun c B2 _ _ e2 => ed_chain (ed_str) (ed_var rfl (.str _ (by show 1 ≤ sizeLine; decide))) rd_leS fun _ => ⟨_, ed_str, rd_leS⟩)) (by rw [mapb])) eds_nil) rc_all) ?_) fun v1 B2 H2 e2 a2 h2 => ?_
        · rw [wordD_str]
          rw [Bool.not_eq_false'] at hb
          rw [hb, all_id]
          rfl
        · obtain rfl := dd_bl h2
          exact fin _ B2 H2 a2 rfl
    · have hs' : isStrD d = false := by simpa using hs
      refine qv_when (b := true) a (et_is (et_or (b := !isStrD d) (c := true) (et_not (et_val (ed_isi (ed_var rfl hv) (kit_str _)))) fun h => by rw [hs'] at h; cases h) (by rw [hs']; rfl)) (fun hb B1 H1 e1 a1 => ?_) (fun h => nomatch h)
      refine sv_ret (P := DD K (.bool false)) a1 ed_bl fun v1 B2 H2 e2 a2 h2 => ?_
      obtain rfl := dd_bl h2
      refine fin _ B2 H2 a2 ?_
      cases d <;> first | rfl | cases hs' 
abbrev s_is_rule : Stmt := topS 23
abbrev N_is_rule : List Str := ["value", "kinds", "part"]
theorem sc_is_rule : FnScope N_is_rule ["value", "kinds"] (defScope s_is_rule) := ⟨rfl, rfl, rfl, by decide +kernel, rfl, by decide +kernel, by decide +kernel⟩
theorem ok_is_rule (F : Fun K "is_rule" "is_rule" s_is_rule f fd) (T : TC K mg) (C_is_between : Callee P w K mg base "is_between" 2 ["value", "low", "high"] (spBetween K)) (C_is_word : Callee P w K mg base "is_word" 1 ["value"] (spF K pre1 fWord)) : FnOk P w K mg base CX0 3 f fd ["value", "kinds"] (spF K (fun ds => ∃ d n, ds = [d, .int n]) fRule) := by
  refine F.ok sc_is_rule (fun vs H Q E h => ?_) (fun cdv A outer s H vs Q E hr h => ?_)
  · obtain ⟨B, ds, e, hd, ⟨d, n, rfl⟩, q⟩ := h
    exact hd.len
  · obtain ⟨B, ds, e, hd, ⟨d, n, rfl⟩, q⟩ := h
    obtain ⟨v, v2, rfl, hv, hn⟩ := arg2 hd
    obtain rfl := dd_int hn
    have hu64 : (A.deeper (envOfC "is_rule" (defScope s_is_rule) s.heap.objs.size f cdv)).units + 64 < cLine := hr.units
    obtain ⟨WW, gW, hW⟩ := T.w_WORD.ex
    obtain ⟨WO, gO, hO⟩ := T.w_ONE.ex
    obtain ⟨WT, gT, hT⟩ := T.w_TWO.ex
    refine ⟨_, (pss_cons (ps_if (PW.pt (pw_or (pt_not (pt_val (pe_callB (call_isiK1 K) (by rfl) T.m_isinstance bt_isinstance (pa_cons (pv 0) (pa_cons (pe_bltn (v := .ty "tuple") (by rfl) T.m_tuple bt_tuple rfl) pa_nil))))) (pw_or (pt_cmpR op_lt (pe_callB (call_lenK K) (by rfl) T.m_len bt_len (pa_cons (pv 0) pa_nil)) pe_int (nomark _)) (pw_or1 (pt_not (pt_val (pe_callB (call_isiK1 K) (by rfl) T.m_isinstance bt_isinstance (pa_cons (pe_ix (ix_seqK K) (pv 0) pe_int (fun _ _ => rfl)) (pa_cons (pe_bltn (v := .ty "str") (by rfl) T.m_str bt_str rfl) pa_nil))))))))) (pss_one (ps_ret pe_bl)) pss_nil)
      (pss_cons (ps_if (pt_not (pt_val (pe_callC C_is_between (hr.mono (by decide)) rfl pass0 (pa_cons (pe_ix (ix_seqK K) (pv 0) pe_int (fun _ _ => rfl)) (pa_cons pe_int (pa_cons (pe_op op_sub (pv 1) pe_int) pa_nil)))))) (pss_one (ps_ret pe_bl)) pss_nil)
      (pss_cons (ps_if (pt_cmpR (op_inK K) (pe_ix (ix_seqK K) (pv 0) pe_int (fun _ _ => rfl)) (pe_glob (v := .ref WW) rfl gW rfl) (by rfl)) (pss_one (ps_ret (pe_and (pe_cmpR (op_eqDK K hu64) (pe_callB (call_lenK K) (by rfl) T.m_len bt_len (pa_cons (pv 0) pa_nil)) pe_int (nomark _)) (pe_one (pe_callC C_is_word (hr.mono (by decide)) rfl pass0 (pa_cons (pe_ix (ix_seqK K) (pv 0) pe_int (fun _ _ => rfl)) pa_nil)))))) pss_nil)
      (pss_cons (ps_if (pt_cmpR (op_inK K) (pe_ix (ix_seqK K) (pv 0) pe_int (fun _ _ => rfl)) (pe_glob (v := .ref WO) rfl gO rfl) (by rfl)) (pss_one (ps_ret (pe_and (pe_cmpR (op_eqDK K hu64) (pe_callB (call_lenK K) (by rfl) T.m_len bt_len (pa_cons (pv 0) pa_nil)) pe_int (nomark _)) (pe_one (pe_callC C_is_between (hr.mono (by decide)) rfl pass0 (pa_cons (pe_ix (ix_seqK K) (pv 0) pe_int (fun _ _ => rfl)) (pa_cons pe_int (pa_cons (pe_op op_sub (pv 1) pe_int) pa_nil)))))))) pss_nil)
      (pss_cons (ps_if (pt_cmpR (op_inK K) (pe_ix (ix_seqK K) (pv 0) pe_int (fun _ _ => rfl)) (pe_glob (v := .ref WT) rfl gT rfl) (by rfl)) (pss_one (ps_ret (pe_and (pe_cmpR (op_eqDK K hu64) (pe_callB (call_lenK K) (by rfl) T.m_len bt_len (pa_cons (pv 0) pa_nil)) pe_int (nomark _)) (pe_one (pe_callB (cr_allK K) (by rfl) T.m_all bt_all (pa_cons (pe_lc (own := [("part", 2)]) rfl sc_is_rule.nd (pi_seqK K (pe_slice (sl_anyK K) (pv 0) (po_some pe_int) po_none)) (blkOk_by (own := [("part", 2)]) (N := N_is_rule) (sc := defScope s_is_rule) (by decide +kernel)) (fun _ _ _ _ _ => pg_name (i := 2) sc_is_rule.nd rfl (Or.inl rfl)) (fun _ _ _ _ _ => pts_nil) (fun _ _ _ _ _ => (pe_callC C_is_between (hr.mono (by decide)) rfl pass0 (pa_cons (pv 2) (pa_cons pe_int (pa_cons (pe_op op_sub (pv 1) pe_int) pa_nil)))))) pa_nil)))))) pss_nil)
      (pss_one (ps_ret pe_bl))))))), ?_⟩
    have a : At Fm.pure B H B H := At.start (Ok.any e)
    have fin : ∀ b B1 H1, At Fm.pure B H B1 H1 → b = ruleD d n → Q (.bl b) H1 := fun b B1 H1 a1 eb => by
      refine q _ B1 H1 a1.st ?_
      show Dd K B1 (.bl b) (.bool (ruleD d n))
      rw [eb]
      exact .bl _
    rcases three d with ⟨x, y, p, ps, rfl⟩ | ⟨h1, h2⟩ | ⟨xs, rfl, h1, h2⟩
    · have i0 : ∀ B1 (σ : L2.St), Ex B B1 → σ[0]? = some (some v) → ED Fm.pure K (tOp (rIx K) (tVar 0) (tC (.int 0))) σ B1 x := fun B1 σ e1 hσ => ed_op (ed_var hσ (hv.up e1)) ed_int (rd_ixT at3_0)
      have i1 : ∀ B1 (σ : L2.St), Ex B B1 → σ[0]? = some (some v) → ED Fm.pure K (tOp (rIx K) (tVar 0) (tC (.int 1))) σ B1 y := fun B1 σ e1 hσ => ed_op (ed_var hσ (hv.up e1)) ed_int (rd_ixT at3_1)
      have i2 : ∀ B1 (σ : L2.St), Ex B B1 → σ[0]? = some (some v) → ED Fm.pure K (tOp (rIx K) (tVar 0) (tC (.int 2))) σ B1 p := fun B1 σ e1 hσ => ed_op (ed_var hσ (hv.up e1)) ed_int (rd_ixT at3_2)
      have ln : ∀ B1 (σ : L2.St), Ex B B1 → σ[0]? = some (some v) → ED Fm.pure K (tCB (rLnK K) (tCons (tVar 0) tNil)) σ B1 (.int (lenD (.tuple (x :: y :: p :: ps)))) := fun B1 σ e1 hσ => ev_cb (eds_cons (ed_var hσ (hv.up e1)) eds_nil) (rc_len rfl)
      have n1 : ∀ B1 (σ : L2.St), σ[1]? = some (some (.int n)) → ED Fm.pure K (tOp (rI0 fun i j => .int (i - j)) (tVar 1) (tC (.int 1))) σ B1 (.int (n - 1)) := fun B1 σ hσ => ed_op (ed_var hσ (.int n)) ed_int rd_sub
      refine qv_when (b := !isStrD y) a (et_is (et_or (b := false) (et_not (et_val (ed_isi (ed_var rfl hv) (kit_tup _)))) fun _ => et_or (b := false) (et_is (et_cmp (ed_op (ln _ _ (Ex.refl B) rfl) ed_int rd_lt)) (decide_eq_false (by show ¬ (((ps.length + 1 + 1 + 1 : Nat) : Int) < 3); omega))) fun _ => et_not (et_val (ed_isi (i1 _ _ (Ex.refl B) rfl) (kit_str y)))) (by rfl)) (fun hb B1 H1 e1 a1 => ?_) (fun hb B1 H1 e1 a1 => ?_)
      · refine sv_ret (P := DD K (.bool false)) a1 ed_bl fun v1 B2 H2 e2 a2 h2 => ?_
        obtain rfl := dd_bl h2
        refine fin _ B2 H2 a2 ?_
        cases y <;> first | rfl | cases hb
      obtain ⟨s, rfl⟩ := isStr_is (by simpa using hb)
      have rl : ruleD (.tuple (x :: .str s :: p :: ps)) n = (inB x 0 (n - 1) && tailD s (p :: ps) n) := rfl
      refine qv_when (b := !inB x 0 (n - 1)) a1 (et_not (et_val (ed_F (eds_cons (i0 _ _ e1 rfl) (eds_cons ed_int (eds_cons (n1 _ _ rfl) eds_nil))) ⟨_, _, _, rfl⟩ rfl))) (fun hb2 B2 H2 e2 a2 => ?_) (fun hb2 B2 H2 e2 a2 => ?_)
      · refine sv_ret (P := DD K (.bool false)) a2 ed_bl fun v1 B3 H3 e3 a3 h3 => ?_
        obtain rfl := dd_bl h3
        refine fin _ B3 H3 a3 ?_
        rw [rl]
        rw [Bool.not_eq_true'] at hb2
        rw [hb2]
        rfl
      have hx : inB x 0 (n - 1) = true := by simpa using hb2
      have rl2 : ruleD (.tuple (x :: .str s :: p :: ps)) n = tailD s (p :: ps) n := by rw [rl, hx]; rfl
      refine qv_when (b := inS s WSH) a2 (et_cmp (inST (i1 _ _ (e1.trans e2) rfl) (ed_v (hW B2)))) (fun hb3 B3 H3 e3 a3 => ?_) (fun hb3 B3 H3 e3 a3 => ?_)
      · refine sv_ret (P := DD K (.bool (ruleD (.tuple (x :: .str s :: p :: ps)) n))) a3 (ed_is (ed_andV (b := decide ((p :: ps).length = 1)) (c := wordD p) (ed_is (ed_op (ln _ _ ((e1.trans e2).trans e3) rfl) ed_int (rd_eqD rfl rfl)) (by rw [← lenk x (.str s) p ps 1]; rfl)) fun _ => ed_F (eds_cons (i2 _ _ ((e1.trans e2).trans e3) rfl) eds_nil) ⟨_, rfl⟩ rfl) ?_) fun v1 B4 H4 e4 a4 h4 => ?_
        · rw [rl2]
          unfold tailD
          rw [if_pos hb3]
          rfl
        · obtain rfl := dd_bl h4
          exact fin _ B4 H4 a4 rfl
      refine qv_when (b := inS s OSH) a3 (et_cmp (inST (i1 _ _ ((e1.trans e2).trans e3) rfl) (ed_v (hO B3)))) (fun hb4 B4 H4 e4 a4 => ?_) (fun hb4 B4 H4 e4 a4 => ?_)
      · refine sv_ret (P := DD K (.bool (ruleD (.tuple (x :: .str s :: p :: ps)) n))) a4 (ed_is (ed_andV (b := decide ((p :: ps).length = 1)) (c := inB p 0 (n - 1)) (ed_is (ed_op (ln _ _ (((e1.trans e2).trans e3).trans e4) rfl) ed_int (rd_eqD rfl rfl)) (by rw [← lenk x (.str s) p ps 1]; rfl)) fun _ => ed_F (eds_cons (i2 _ _ (((e1.trans e2).trans e3).trans e4) rfl) (eds_cons ed_int (eds_cons (n1 _ _ rfl) eds_nil))) ⟨_, _, _, rfl⟩ rfl) ?_) fun v1 B5 H5 e5 a5 h5 => ?_
        · rw [rl2]
          unfold tailD
          rw [hb3, if_neg (by decide), if_pos hb4]
          rfl
        · obtain rfl := dd_bl h5
          exact fin _ B5 H5 a5 rfl
      refine qv_when (b := inS s TSH) a4 (et_cmp (inST (i1 _ _ (((e1.trans e2).trans e3).trans e4) rfl) (ed_v (hT B4)))) (fun hb5 B5 H5 e5 a5 => ?_) (fun hb5 B5 H5 e5 a5 => ?_)
      · have e0 := (((e1.trans e2).trans e3).trans e4).trans e5
        have sl := ed_slT (F := Fm.pure) (K := K) (σ := [some v, some (.int n), none]) (ed_var (i := 0) rfl (hv.up e0)) (eo_some (K := K) (i := 2) ed_int) eo_none
        rw [cut2] at sl
        refine sv_ret (P := DD K (.bool (ruleD (.tuple (x :: .str s :: p :: ps)) n))) a5 (ed_is (ed_andV (b := decide ((p :: ps).length = 2)) (c := (p :: ps).all fun d => inB d 0 (n - 1)) (ed_is (ed_op (ln _ _ e0 rfl) ed_int (rd_eqD rfl rfl)) (by rw [← lenk x (.str s) p ps 2]; rfl)) fun hl => ?_) ?_) fun v1 B6 H6 e6 a6 h6 => ?_
        · have hl' : (p :: ps).length = 2 := of_decide_eq_true hl
          exact ed_is (ev_cb (eds_cons (ed_is (ed_lcD (fun _ => true) (fun d => .bool (inB d 0 (n - 1))) (ev_seqT sl) (by rw [hl']; decide) (fun _ => rfl) (fun d v B6 _ _ _ => et_yes) (fun d v B6 _ _ e6 hdv => ed_F (eds_cons (ed_var rfl hdv) (eds_cons ed_int (eds_cons (n1 _ _ rfl) eds_nil))) ⟨_, _, _, rfl⟩ rfl)) (by rw [mapb])) eds_nil) rc_all) (by rw [all_id])
        · rw [rl2]
          unfold tailD
          rw [hb3, hb4, hb5, if_neg (by decide), if_neg (by decide)]
          rfl
        · obtain rfl := dd_bl h6
          exact fin _ B6 H6 a6 rfl
      · refine sv_ret (P := DD K (.bool false)) a5 ed_bl fun v1 B6 H6 e6 a6 h6 => ?_
        obtain rfl := dd_bl h6
        refine fin _ B6 H6 a6 ?_
        rw [rl2]
        unfold tailD
        rw [hb3, hb4, hb5]
        rfl
    · refine qv_when (b := true) a (et_is (et_or (b := !isTupD d) (c := true) (et_not (et_val (ed_isi (ed_var rfl hv) (kit_tup _)))) fun h => by rw [h1] at h; cases h) (by rw [h1]; rfl)) (fun hb B1 H1 e1 a1 => ?_) (fun h => nomatch h)
      refine sv_ret (P := DD K (.bool false)) a1 ed_bl fun v1 B2 H2 e2 a2 g2 => ?_
      obtain rfl := dd_bl g2
      exact fin _ B2 H2 a2 (h2 n).symm
    · refine qv_when (b := true) a (et_is (et_or (b := false) (c := true) (et_not (et_val (ed_isi (ed_var rfl hv) (kit_tup _)))) fun _ => et_is (et_or (b := true) (c := true) (et_is (et_cmp (ed_op (ev_cb (eds_cons (ed_var rfl hv) eds_nil) (rc_len rfl)) ed_int rd_lt)) (decide_eq_true (by show ((xs.length : Nat) : Int) < 3; omega))) fun h => nomatch h) rfl) rfl) (fun hb B1 H1 e1 a1 => ?_) (fun h => nomatch h)
      refine sv_ret (P := DD K (.bool false)) a1 ed_bl fun v1 B2 H2 e2 a2 g2 => ?_
      obtain rfl := dd_bl g2
      exact fin _ B2 H2 a2 (h2 n).symm
abbrev s_is_rules : Stmt := topS 22
abbrev N_is_rules : List Str := ["value", "kinds", "rule"]
theorem sc_is_rules : FnScope N_is_rules ["value", "kinds"] (defScope s_is_rules) := ⟨rfl, rfl, rfl, by decide +kernel, rfl, by decide +kernel, by decide +kernel⟩
theorem tup_is {d : PyData} (h : isTupD d = true) : ∃ ds, d = .tuple ds := by
  cases d with
  | tuple ds => exact ⟨ds, rfl⟩
  | _ => cases h
theorem ok_is_rules (F : Fun K "is_rules" "is_rules" s_is_rules f fd) (T : TC K mg) (C_is_rule : Callee P w K mg base "is_rule" 3 ["value", "kinds"] (spF K (fun ds => ∃ d n, ds = [d, .int n]) fRule)) : FnOk P w K mg base CX0 4 f fd ["value", "kinds"] (spF K (fun ds => ∃ d n, ds = [d, .int n]) fRules) := by
  refine F.ok sc_is_rules (fun vs H Q E h => ?_) (fun cdv A outer s H vs Q E hr h => ?_)
  · obtain ⟨B, ds, e, hd, ⟨d, n, rfl⟩, q⟩ := h
    exact hd.len
  · obtain ⟨B, ds, e, hd, ⟨d, n, rfl⟩, q⟩ := h
    obtain ⟨v, v2, rfl, hv, hn⟩ := arg2 hd
    obtain rfl := dd_int hn
    refine ⟨_, (pss_cons (ps_if (PW.pt (pw_or (pt_not (pt_val (pe_callB (call_isiK1 K) (by rfl) T.m_isinstance bt_isinstance (pa_cons (pv 0) (pa_cons (pe_bltn (v := .ty "tuple") (by rfl) T.m_tuple bt_tuple rfl) pa_nil))))) (pw_or1 (pt_not (pt_chain op_le op_le pe_int (pe_callB (call_lenK K) (by rfl) T.m_len bt_len (pa_cons (pv 0) pa_nil)) (pe_gint rfl T.c_MOST_RULES)))))) (pss_one (ps_ret pe_bl)) pss_nil)
      (pss_one (ps_ret (pe_callB (cr_allK K) (by rfl) T.m_all bt_all (pa_cons (pe_lc (own := [("rule", 2)]) rfl sc_is_rules.nd (pi_seqK K (pv 0)) (blkOk_by (own := [("rule", 2)]) (N := N_is_rules) (sc := defScope s_is_rules) (by decide +kernel)) (fun _ _ _ _ _ => pg_name (i := 2) sc_is_rules.nd rfl (Or.inl rfl)) (fun _ _ _ _ _ => pts_nil) (fun _ _ _ _ _ => (pe_callC C_is_rule (hr.mono (by decide)) rfl pass0 (pa_cons (pv 2) (pa_cons (pv 1) pa_nil))))) pa_nil))))), ?_⟩
    have a : At Fm.pure B H B H := At.start (Ok.any e)
    have fin : ∀ b B1 H1, At Fm.pure B H B1 H1 → b = rulesD d n → Q (.bl b) H1 := fun b B1 H1 a1 eb => by
      refine q _ B1 H1 a1.st ?_
      show Dd K B1 (.bl b) (.bool (rulesD d n))
      rw [eb]
      exact .bl _
    by_cases hs : isTupD d = true
    · obtain ⟨x, rfl⟩ := tup_is hs
      refine qv_when (b := !(decide ((1 : Int) ≤ (x.length : Nat)) && decide (((x.length : Nat) : Int) ≤ 90))) a (et_is (et_or (b := false) (et_not (et_val (ed_isi (ed_var rfl hv) (kit_tup _)))) fun _ => et_not (et_cmp (ed_chain (ed_int) (ev_cb (eds_cons (ed_var rfl hv) eds_nil) (rc_len rfl)) rd_le fun _ => ⟨_, ed_int, rd_le⟩))) (by rfl)) (fun hb B1 H1 e1 a1 => ?_) (fun hb B1 H1 e1 a1 => ?_)
      · refine sv_ret (P := DD K (.bool false)) a1 ed_bl fun v1 B2 H2 e2 a2 h2 => ?_
        obtain rfl := dd_bl h2
        refine fin _ B2 H2 a2 ?_
        rw [rulesD_tup]
        rw [Bool.not_eq_true'] at hb
        rw [hb]
        rfl
      · rw [Bool.not_eq_false'] at hb
        have hz : x.length ≤ 90 := by
          rw [Bool.and_eq_true, decide_eq_true_eq, decide_eq_true_eq] at hb
          omega
        refine sv_ret (P := DD K (.bool (rulesD (.tuple x) n))) a1 (ed_is (ev_cb (eds_cons (ed_is (ed_lcD (fun _ => true) (fun d => .bool (ruleD d n)) (ev_seqT (ed_var rfl (hv.up e1))) (by omega) (fun _ => rfl) (fun d v B2 _ _ _ => et_yes) (fun d v B2 _ _ e2 hdv => ed_F (eds_cons (ed_var rfl hdv) (eds_cons (ed_var rfl (.int n)) eds_nil)) ⟨_, _, rfl⟩ rfl)) (by rw [mapb])) eds_nil) rc_all) ?_) fun v1 B2 H2 e2 a2 h2 => ?_
        · rw [rulesD_tup]
          rw [hb, all_id]
          rfl
        · obtain rfl := dd_bl h2
          exact fin _ B2 H2 a2 rfl
    · have hs' : isTupD d = false := by simpa using hs
      refine qv_when (b := true) a (et_is (et_or (b := !isTupD d) (c := true) (et_not (et_val (ed_isi (ed_var rfl hv) (kit_tup _)))) fun h => by rw [hs'] at h; cases h) (by rw [hs']; rfl)) (fun hb B1 H1 e1 a1 => ?_) (fun h => nomatch h)
      refine sv_ret (P := DD K (.bool false)) a1 ed_bl fun v1 B2 H2 e2 a2 h2 => ?_
      obtain rfl := dd_bl h2
      refine fin _ B2 H2 a2 ?_
      cases d <;> first | rfl | cases hs' 
end
end K33

namespace K33
open PySem PySem.Spec PyProof.Rows L2 Evl Ex Dx
open PySem.PyData (strOk)

section
variable {P : Program} {w : World} {K : PySem.W.Frag} {mg : Str → Option Value} {base : Heap} {f : Addr} {fd : FuncData}

abbrev s_law_whole : Stmt := topS 48
abbrev N_law_whole : List Str := ["value"]
theorem sc_law_whole : FnScope N_law_whole ["value"] (defScope s_law_whole) := ⟨rfl, rfl, rfl, by decide +kernel, rfl, by decide +kernel, by decide +kernel⟩
theorem ok_law_whole (F : Fun K "_law_whole" "_law_whole" s_law_whole f fd) (T : TC K mg) : FnOk P w K mg base CX0 1 f fd ["value"] (spInt K) := by
  refine F.ok sc_law_whole (fun vs H Q E h => ?_) (fun cdv A outer s H vs Q E hr h => ?_)
  · obtain ⟨B, ds, e, hd, ⟨d, rfl⟩, q⟩ := h
    exact hd.len
  · obtain ⟨B, ds, e, hd, ⟨d, rfl⟩, q⟩ := h
    obtain ⟨v, rfl, hv⟩ := arg1 hd
    refine ⟨_, (pss_one (ps_ret (pe_and (pe_callB (call_isiK1 K) (by rfl) T.m_isinstance bt_isinstance (pa_cons (pv 0) (pa_cons (pe_bltn (v := .ty "int") (by rfl) T.m_int bt_int rfl) pa_nil))) (pe_one (pe_not (pe_callB (call_isiK1 K) (by rfl) T.m_isinstance bt_isinstance (pa_cons (pv 0) (pa_cons (pe_bltn (v := .ty "bool") (by rfl) T.m_bool bt_bool rfl) pa_nil)))))))), ?_⟩
    have a : At Fm.pure B H B H := At.start (Ok.any e)
    have e2 : (isIntD d && !isBoolD d) = isI d := by cases d <;> rfl
    refine sv_ret (P := DD K (.bool (isI d))) a (ed_is (ed_andV (ed_isi (ed_var rfl hv) (kit_int d)) (fun _ => ed_notV (ed_isi (ed_var rfl hv) (kit_bool d)))) (by rw [e2])) fun v B1 H1 e1 a1 h1 => ?_
    exact q v B1 H1 a1.st h1
theorem isI_is {d : PyData} (h : isI d = true) : ∃ i, d = .int i := by
  cases d with
  | int i => exact ⟨i, rfl⟩
  | _ => cases h
theorem numsD_tup (ds : List PyData) (n : Int) : numsD (.tuple ds) n = ds.all fun e => inB e 0 (n - 1) := rfl
theorem inB_not (d : PyData) (n : Int) (h : isI d = false) : inB d 0 (n - 1) = false := by
  cases d <;> first | rfl | cases h
abbrev s_law_is_numbers : Stmt := topS 49
abbrev N_law_is_numbers : List Str := ["value", "many", "one"]
theorem sc_law_is_numbers : FnScope N_law_is_numbers ["value", "many"] (defScope s_law_is_numbers) := ⟨rfl, rfl, rfl, by decide +kernel, rfl, by decide +kernel, by decide +kernel⟩
theorem ok_law_is_numbers (F : Fun K "_law_is_numbers" "_law_is_numbers" s_law_is_numbers f fd) (T : TC K mg) (C_law_whole : Callee P w K mg base "_law_whole" 1 ["value"] (spInt K)) : FnOk P w K mg base CX0 2 f fd ["value", "many"] (spF K (fun ds => ∃ d n, ds = [d, .int n] ∧ Sm 60 d) fNums) := by
  refine F.ok sc_law_is_numbers (fun vs H Q E h => ?_) (fun cdv A outer s H vs Q E hr h => ?_)
  · obtain ⟨B, ds, e, hd, ⟨d, n, rfl, hs⟩, q⟩ := h
    exact hd.len
  · obtain ⟨B, ds, e, hd, ⟨d, n, rfl, hs⟩, q⟩ := h
    obtain ⟨v, v2, rfl, hv, hn⟩ := arg2 hd
    obtain rfl := dd_int hn
    have hu64 : (A.deeper (envOfC "_law_is_numbers" (defScope s_law_is_numbers) s.heap.objs.size f cdv)).units + 64 < cLine := hr.units
    refine ⟨_, (pss_cons (ps_if (pt_not (pt_val (pe_callB (call_isiK1 K) (by rfl) T.m_isinstance bt_isinstance (pa_cons (pv 0) (pa_cons (pe_bltn (v := .ty "tuple") (by rfl) T.m_tuple bt_tuple rfl) pa_nil))))) (pss_one (ps_ret pe_bl)) pss_nil)
      (pss_one (ps_ret (pe_cmpR (op_eqDK K hu64) (pe_lc (own := [("one", 2)]) rfl sc_law_is_numbers.nd (pi_seqK K (pv 0)) (blkOk_by (own := [("one", 2)]) (N := N_law_is_numbers) (sc := defScope s_law_is_numbers) (by decide +kernel)) (fun _ _ _ _ _ => pg_name (i := 2) sc_law_is_numbers.nd rfl (Or.inl rfl)) (fun _ _ _ _ _ => (pts_one (PW.pt (pw_or (pt_not (pt_val (pe_callC C_law_whole (hr.mono (by decide)) rfl pass0 (pa_cons (pv 2) pa_nil)))) (pw_or (pt_cmpR op_lt (pv 2) pe_int (nomark _)) (pw_or1 (pt_cmpR op_ge (pv 2) (pv 1) (nomark _)))))))) (fun _ _ _ _ _ => (pv 2))) (pe_lst pa_nil) (nomark _))))), ?_⟩
    have a : At Fm.pure B H B H := At.start (Ok.any e)
    have fin : ∀ b B1 H1, At Fm.pure B H B1 H1 → b = numsD d n → Q (.bl b) H1 := fun b B1 H1 a1 eb => by
      refine q _ B1 H1 a1.st ?_
      show Dd K B1 (.bl b) (.bool (numsD d n))
      rw [eb]
      exact .bl _

    refine qv_when (b := !isTupD d) a (et_not (et_val (ed_isi (ed_var rfl hv) (kit_tup _)))) (fun hb B1 H1 e1 a1 => ?_) (fun hb B1 H1 e1 a1 => ?_)
    · refine sv_ret (P := DD K (.bool false)) a1 ed_bl fun v1 B2 H2 e2 a2 h2 => ?_
      obtain rfl := dd_bl h2
      refine fin _ B2 H2 a2 ?_
      cases d <;> first | rfl | cases hb
    · obtain ⟨xs, rfl⟩ := tup_is (by simpa using hb)
      have hz : xs.length ≤ 16777216 := by
        obtain ⟨p, us, _, _, l1, g1⟩ := dd_tup hv
        rw [← g1.len, ← sizeLine_eq]
        exact l1
      refine sv_ret (P := DD K (.bool (numsD (.tuple xs) n))) a1 (ed_is (ed_op (ed_lcD (fun d => !inB d 0 (n - 1)) (fun d => d) (ev_seqT (ed_var rfl (hv.up e1))) hz (fun _ => rfl) (fun d v B2 _ _ hdv => ?_) (fun d v B2 _ _ _ hdv => ed_var rfl hdv)) (ed_lst eds_nil) (rd_eqD (Sm.sh (sm_filter (n := 59) fun d hd => hs.memT hd)) rfl)) ?_) fun v1 B2 H2 e2 a2 h2 => ?_
      · refine et_is (et_or (b := !isI d) (c := !inB d 0 (n - 1)) (et_not (et_val (ed_F (eds_cons (ed_var rfl hdv) eds_nil) ⟨_, rfl⟩ rfl))) fun hi => ?_) ?_
        · obtain ⟨i, rfl⟩ := isI_is (by simpa using hi)
          refine et_is (et_or (et_cmp (ed_op (ed_var rfl hdv) ed_int rd_lt)) fun _ => et_cmp (ed_op (ed_var rfl hdv) (ed_var rfl (.int n)) rd_ge)) ?_
          show (decide (i < 0) || decide (n ≤ i)) = !(decide (0 ≤ i) && decide (i ≤ n - 1))
          rw [Bool.eq_iff_iff]
          simp only [Bool.or_eq_true, decide_eq_true_eq, Bool.not_eq_true', Bool.and_eq_false_iff, decide_eq_false_iff_not]
          omega
        · cases h : isI d with
          | true => rfl
          | false => rw [inB_not d n h]; rfl
      · rw [eqv_nil, List.map_id', filter_emp, numsD_tup]
        simp only [Bool.not_not]
      · obtain rfl := dd_bl h2
        exact fin _ B2 H2 a2 rfl
abbrev s_law_is_due : Stmt := topS 50
abbrev N_law_is_due : List Str := ["told", "due"]
theorem sc_law_is_due : FnScope N_law_is_due ["told", "due"] (defScope s_law_is_due) := ⟨rfl, rfl, rfl, by decide +kernel, rfl, by decide +kernel, by decide +kernel⟩
def fIs : List PyData → PyData
  | [.bool a, .bool b] => .bool (a == b)
  | _ => .none
theorem ok_law_is_due (F : Fun K "_law_is_due" "_law_is_due" s_law_is_due f fd) (T : TC K mg) : FnOk P w K mg base CX0 1 f fd ["told", "due"] (spF K (fun ds => ∃ a b, ds = [.bool a, .bool b]) fIs) := by
  refine F.ok sc_law_is_due (fun vs H Q E h => ?_) (fun cdv A outer s H vs Q E hr h => ?_)
  · obtain ⟨B, ds, e, hd, ⟨x, y, rfl⟩, q⟩ := h
    exact hd.len
  · obtain ⟨B, ds, e, hd, ⟨x, y, rfl⟩, q⟩ := h
    obtain ⟨v, v2, rfl, hv, hn⟩ := arg2 hd
    obtain rfl := dd_bl hn
    obtain rfl := dd_bl hv
    refine ⟨_, (pss_one (ps_ret (pe_ifExp (pt_tru K (pv 1)) (pe_cmpR op_isBl (pv 0) pe_bl (nomark _)) (pe_cmpR op_isBl (pv 0) pe_bl (nomark _))))), ?_⟩
    have a : At Fm.pure B H B H := At.start (Ok.any e)

    refine sv_ret (P := DD K (.bool (x == y))) a (ev_if (et_tru (ed_var rfl (.bl y))) (fun hy => ed_is (ed_op (ed_var rfl (.bl x)) ed_bl rd_isB) ?_) (fun hy => ed_is (ed_op (ed_var rfl (.bl x)) ed_bl rd_isB) ?_)) fun v1 B2 H2 e2 a2 h2 => ?_
    · have hy' : y = true := hy
      subst hy'
      cases x <;> rfl
    · have hy' : y = false := hy
      subst hy'
      cases x <;> rfl
    · exact q _ B2 H2 a2.st h2
theorem in123 (n : Nat) : inD (.int (n : Nat)) [.int 1, .int 2, .int 3] = (decide ((1 : Int) ≤ (n : Nat)) && decide (((n : Nat) : Int) ≤ 3)) := by
  unfold inD
  simp only [List.any_cons, List.any_nil, eqv_int, Bool.or_false]
  rw [Bool.eq_iff_iff]
  simp only [Bool.or_eq_true, beq_iff_eq, Bool.and_eq_true, decide_eq_true_eq]
  omega
theorem numsD_one (x : PyData) (n : Int) : numsD (.tuple [x]) n = inB x 0 (n - 1) := by
  rw [numsD_tup, List.all_cons, List.all_nil, Bool.and_true]
end
end K33

namespace K33
open PySem PySem.Spec PyProof.Rows L2 Evl Ex Dx
open PySem.PyData (strOk)

section
variable {P : Program} {w : World} {K : PySem.W.Frag} {mg : Str → Option Value} {base : Heap} {f : Addr} {fd : FuncData}

def itemsD : PyData → List PyData
  | .list xs => xs
  | .tuple xs => xs
  | _ => []
def fUn : List PyData → PyData
  | [d] => .list ((edges (itemsD d)).map toD)
  | _ => .none
def preUn (ds : List PyData) : Prop := ∃ d rs n, ds = [d] ∧ (d = .list rs ∨ d = .tuple rs) ∧ rs.length ≤ 100 ∧ ∀ r ∈ rs, ruleD r n = true
def ofD (d : PyData) : Int × Int := match d with
  | .tuple [.int a, .int b] => (a, b)
  | _ => (0, 0)
theorem ofD_toD (E : List (Int × Int)) : (E.map toD).map ofD = E := by
  rw [List.map_map]
  exact List.map_id'' (fun _ => rfl) E
def fBack : List PyData → PyData
  | [.list es, .int n] => optD (backK (es.map ofD) n.toNat)
  | _ => .none
def preBack (ds : List PyData) : Prop := ∃ (E : List (Int × Int)) (n : Nat), ds = [.list (E.map toD), .int (n : Nat)] ∧ E.length ≤ 100 ∧ n ≤ 40
theorem inD_int (x : Int) (S : List Int) : inD (.int x) (S.map .int) = S.contains x := by
  unfold inD
  rw [List.any_map, Bool.eq_iff_iff, List.any_eq_true, List.contains_iff_mem]
  constructor
  · rintro ⟨y, hy, he⟩
    have e : (y == x) = true := (eqv_int y x).symm.trans he
    rw [beq_iff_eq] at e
    exact e ▸ hy
  · intro h
    exact ⟨x, h, (eqv_int x x).trans (beq_self_eq_true x)⟩
theorem flatI (S : List Int) : (S.map PyData.int).all flatD = true := by
  rw [List.all_map]
  exact List.all_eq_true.mpr fun _ _ => rfl
theorem lc_E (E : List (Int × Int)) (p : Int × Int → Bool) : ((E.map toD).filter fun d => p (ofD d)).map (fun d => PyData.int (ofD d).2) = ((E.filter p).map (·.2)).map PyData.int := by
  rw [List.filter_map, List.map_map, List.map_map]
  rfl
theorem backK_some {E : List (Int × Int)} {n i : Nat} (hi : i < n) (h : (Gm.turns E (i : Int) (n + 1)).contains (i : Int) = true) (hb : ∀ k, k < i → (Gm.turns E (k : Int) (n + 1)).contains (k : Int) = false) : backK E n = some (i : Int) := by
  unfold backK
  rw [List.find?_range_eq_some.mpr ⟨h, List.mem_range.mpr hi, fun j hj => by rw [hb j hj]; rfl⟩]
  rfl
theorem backK_none {E : List (Int × Int)} {n : Nat} (hb : ∀ k, k < n → (Gm.turns E (k : Int) (n + 1)).contains (k : Int) = false) : backK E n = none := by
  unfold backK
  rw [List.find?_eq_none.mpr fun k hk => by rw [hb k (List.mem_range.mp hk)]; decide]
  rfl
def tq (i : Int) (S : List Int) (q : Int × Int) : Bool := (q.1 == i || S.contains q.1) && !S.contains q.2
theorem at2_0 {x y : PyData} : atI [x, y] 0 = some x := atI_nat (j := 0) rfl
theorem at2_1 {x y : PyData} : atI [x, y] 1 = some y := atI_nat (j := 1) rfl

abbrev s_law_unary : Stmt := topS 54
abbrev N_law_unary : List Str := ["rules", "rule"]
theorem sc_law_unary : FnScope N_law_unary ["rules"] (defScope s_law_unary) := ⟨rfl, rfl, rfl, by decide +kernel, rfl, by decide +kernel, by decide +kernel⟩
theorem ok_law_unary (F : Fun K "_law_unary" "_law_unary" s_law_unary f fd) (T : TC K mg) : FnOk P w K mg base CX0 1 f fd ["rules"] (spF K preUn fUn) := by
  refine F.ok sc_law_unary (fun vs H Q E h => ?_) (fun cdv A outer s H vs Q E hr h => ?_)
  · obtain ⟨B, ds, e, hd, ⟨d, rs, n, rfl, hrs, hl, hv⟩, q⟩ := h
    exact hd.len
  · obtain ⟨B, ds, e, hd, ⟨d, rs, n, rfl, hrs, hl, hval⟩, q⟩ := h
    obtain ⟨v, rfl, hv⟩ := arg1 hd
    refine ⟨_, (pss_one (ps_ret (pe_lc (own := [("rule", 1)]) rfl sc_law_unary.nd (pi_seqK K (pv 0)) (blkOk_by (own := [("rule", 1)]) (N := N_law_unary) (sc := defScope s_law_unary) (by decide +kernel)) (fun _ _ _ _ _ => pg_name (i := 1) sc_law_unary.nd rfl (Or.inl rfl)) (fun _ _ _ _ _ => (pts_one (pt_cmpR (op_inK K) (pe_ix (ix_seqK K) (pv 1) pe_int (fun _ _ => rfl)) (pe_lst (pa_cons pe_str (pa_cons pe_str (pa_cons pe_str pa_nil)))) (by rfl)))) (fun _ _ _ _ _ => (pe_tup (pa_cons (pe_ix (ix_seqK K) (pv 1) pe_int (fun _ _ => rfl)) (pa_cons (pe_ix (ix_seqK K) (pv 1) pe_int (fun _ _ => rfl)) pa_nil))))))), ?_⟩
    have a : At Fm.pure B H B H := At.start (Ok.any e)

    have sq : EV Fm.pure (tVar 0) (L2.start N_law_unary [v]) B (SqV K (DDs K rs)) := by
      rcases hrs with rfl | rfl
      · exact ev_seqL (ed_var rfl hv)
      · exact ev_seqT (ed_var rfl hv)
    have fi : fUn [d] = .list ((rs.filter isOne).map fun r => toD (edge r)) := by
      have e : itemsD d = rs := by rcases hrs with rfl | rfl <;> rfl
      show PyData.list ((edges (itemsD d)).map toD) = _
      rw [e]
      unfold edges
      rw [List.map_map]
      rfl
    refine sv_ret (P := DD K (fUn [d])) a (ed_is (ed_lcD isOne (fun r => toD (edge r)) sq (by omega) (fun _ => rfl) (fun r v B2 hm _ hr2 => ?_) (fun r v B2 hm ho _ hr2 => ?_)) fi.symm) fun v1 B2 H2 e2 a2 h2 => q _ B2 H2 a2.st h2
    · obtain ⟨x, s, p, ps, rfl, _, _, _⟩ := ruleD_is (hval r hm)
      exact et_cmp (inSL (ed_op (ed_var rfl hr2) ed_int (rd_ixT at3_1)) pyStr)
    · obtain ⟨x, s, c, rfl, _, _, _, _, _⟩ := one_is (hval r hm) ho
      exact ed_tup (eds_cons (ed_op (ed_var rfl hr2) ed_int (rd_ixT at3_0)) (eds_cons (ed_op (ed_var rfl hr2) ed_int (rd_ixT at3_2)) eds_nil))
abbrev s_law_back_kind : Stmt := topS 53
abbrev N_law_back_kind : List Str := ["steps", "kinds", "kind", "found", "turn", "pair"]
theorem sc_law_back_kind : FnScope N_law_back_kind ["steps", "kinds"] (defScope s_law_back_kind) := ⟨rfl, rfl, rfl, by decide +kernel, rfl, by decide +kernel, by decide +kernel⟩
theorem ok_law_back_kind (F : Fun K "_law_back_kind" "_law_back_kind" s_law_back_kind f fd) (T : TC K mg) : FnOk P w K mg base CX0 1 f fd ["steps", "kinds"] (spF K preBack fBack) := by
  refine F.ok sc_law_back_kind (fun vs H Q E h => ?_) (fun cdv A outer s H vs Q E hr h => ?_)
  · obtain ⟨B, ds, e, hd, ⟨E, n, rfl, hl, hn⟩, q⟩ := h
    exact hd.len
  · obtain ⟨B, ds, e, hd, ⟨E, n, rfl, hl, hn⟩, q⟩ := h
    obtain ⟨v, v2, rfl, hv, hn2⟩ := arg2 hd
    obtain rfl := dd_int hn2
    have hu64 : (A.deeper (envOfC "_law_back_kind" (defScope s_law_back_kind) s.heap.objs.size f cdv)).units + 64 < cLine := hr.units
    refine ⟨_, (pss_cons (ps_for PassesOwn.never rfl (pi_range1 rfl T.m_range (pa_cons (pv 1) pa_nil)) (pg_name (i := 2) sc_law_back_kind.nd rfl (Or.inr rfl)) (pss_cons (ps_set (i := 3) sc_law_back_kind.nd rfl (Or.inr rfl) (pe_lst pa_nil))
      (pss_cons (ps_for PassesOwn.never rfl (pi_range1 rfl T.m_range (pa_cons (pe_op (op_addK K) (pv 1) pe_int) pa_nil)) (pg_name (i := 4) sc_law_back_kind.nd rfl (Or.inl rfl)) (pss_one (ps_set (i := 3) sc_law_back_kind.nd rfl (Or.inr rfl) (pe_op (op_addK K) (pv 3) (pe_lc (own := [("pair", 5)]) rfl sc_law_back_kind.nd (pi_seqK K (pv 0)) (blkOk_by (own := [("pair", 5)]) (N := N_law_back_kind) (sc := defScope s_law_back_kind) (by decide +kernel)) (fun _ _ _ _ _ => pg_name (i := 5) sc_law_back_kind.nd rfl (Or.inl rfl)) (fun _ _ _ _ _ => (pts_one (PW.pt (pw_and (PW.pt (pw_or (pt_cmpR (op_eqDK K hu64) (pe_ix (ix_seqK K) (pv 5) pe_int (fun _ _ => rfl)) (pv 2) (nomark _)) (pw_or1 (pt_cmpR (op_inK K) (pe_ix (ix_seqK K) (pv 5) pe_int (fun _ _ => rfl)) (pv 3) (by rfl))))) (pw_and1 (pt_cmpR (op_ninK K) (pe_ix (ix_seqK K) (pv 5) pe_int (fun _ _ => rfl)) (pv 3) (by rfl))))))) (fun _ _ _ _ _ => (pe_ix (ix_seqK K) (pv 5) pe_int (fun _ _ => rfl))))))))
      (pss_one (ps_if (pt_cmpR (op_inK K) (pv 2) (pv 3) (by rfl)) (pss_one (ps_ret (pv 2))) pss_nil)))))
      (pss_one (ps_ret pe_non))), ?_⟩
    have a : At Fm.pure B H B H := At.start (Ok.any e)

    have fb : fBack [.list (E.map toD), .int (n : Nat)] = optD (backK E n) := by
      show optD (backK ((E.map toD).map ofD) ((n : Int)).toNat) = _
      rw [ofD_toD]
      rfl
    refine qd_forR (K := K) (n := (n : Nat)) a (eds_cons (ed_var rfl (.int _)) eds_nil) ⟨by omega, by omega⟩ (fun i σ' B' => (∃ o1 o2 o3, σ' = [some v, some (.int (n : Nat)), o1, o2, o3, none]) ∧ ∀ k : Nat, k < i → (Gm.turns E (k : Int) (n + 1)).contains (k : Int) = false) (fun B1 _ => ⟨⟨none, none, none, rfl⟩, fun k hk => absurd hk (Nat.not_lt_zero k)⟩) ?_ ?_
    · rintro Bb i σ' B1 H1 eb hi e1 a1 ⟨⟨o1, o2, o3, rfl⟩, hno⟩
      have hi' : i < n := by omega
      refine qv_asg a1 (ed_lst (K := K) eds_nil) fun vf B2 H2 e2 a2 hf => ?_
      refine qd_forR (K := K) (n := (n : Nat) + 1) a2 (eds_cons (ed_op (ed_var rfl (.int _)) ed_int rd_add) eds_nil) ⟨by omega, by omega⟩ (fun t σ' B' => ∃ o3 vf, σ' = [some v, some (.int (n : Nat)), some (.int (i : Nat)), some vf, o3, none] ∧ Dd K B' vf (.list ((Gm.turns E (i : Nat) t).map .int))) (fun B3 e3 => ⟨o3, vf, rfl, hf.up e3⟩) ?_ ?_
      · rintro Bc t σ' B3 H3 ec ht e3 a3 ⟨o4, vg, rfl, hg⟩
        have ht' : t ≤ 41 := by omega
        have hS : (Gm.turns E (i : Nat) t).length ≤ 4100 := Nat.le_trans (Gm.turns_len E (i : Nat) t) (Nat.le_trans (Nat.mul_le_mul ht' hl) (by decide))
        have eB : Ex B B3 := ((eb.trans e1).trans e2).trans (ec.trans e3)
        refine sv_asg a3 (ed_op (ed_var rfl hg) (ed_lcD (fun d => tq (i : Int) (Gm.turns E (i : Nat) t) (ofD d)) (fun d => .int (ofD d).2) (ev_seqL (ed_var rfl (hv.up eB))) (by rw [List.length_map]; omega) (fun _ => rfl) (fun d u B4 hm e4 hd4 => ?_) (fun d u B4 hm _ e4 hd4 => ?_)) (rd_addL ?_)) fun v4 B4 H4 e4 a4 h4 => ?_
        · obtain ⟨⟨x, y⟩, _, rfl⟩ := List.mem_map.mp hm
          have c1 : ∀ B5, Ex B4 B5 → True := fun _ _ => trivial
          refine et_and (et_or (et_is (et_cmp (ed_op (K := K) (ed_op (ed_var rfl hd4) ed_int (rd_ixT at2_0)) (ed_var rfl (.int (i : Nat))) (rd_eqD rfl rfl))) (eqv_int _ _)) fun _ => et_is (et_cmp (ed_op (K := K) (ed_op (ed_var rfl hd4) ed_int (rd_ixT at2_0)) (ed_var rfl (hg.up e4)) (rd_isin (.inl rfl) rfl (flatI _)))) (inD_int _ _)) fun _ => et_is (et_cmp (ed_op (K := K) (ed_op (ed_var rfl hd4) ed_int (rd_ixT at2_1)) (ed_var rfl (hg.up e4)) (rd_notin (.inl rfl) rfl (flatI _)))) (congrArg Bool.not (inD_int _ _))
        · obtain ⟨⟨x, y⟩, _, rfl⟩ := List.mem_map.mp hm
          exact ed_op (ed_var rfl hd4) ed_int (rd_ixT at2_1)
        · rw [lc_E E (tq (i : Int) (Gm.turns E (i : Nat) t)), List.length_map, List.length_map, List.length_map]
          have := List.length_filter_le (tq (i : Int) (Gm.turns E (i : Nat) t)) E
          omega
        · rw [lc_E E (tq (i : Int) (Gm.turns E (i : Nat) t)), ← List.map_append] at h4
          exact ⟨B4, e3.trans e4, a4, _, v4, rfl, h4⟩
      · rintro σ' B3 H3 e3 a3 ⟨o4, vg, rfl, hg⟩
        have hg' : Dd K B3 vg (.list ((Gm.turns E (i : Nat) (n + 1)).map .int)) := hg
        refine sv_if (b := (Gm.turns E (i : Nat) (n + 1)).contains (i : Nat)) a3 (et_is (et_cmp (ed_op (ed_var rfl (.int (i : Nat))) (ed_var rfl hg') (rd_isin (.inl rfl) rfl (flatI _)))) (inD_int _ _)) (fun hb B4 H4 e4 a4 => ?_) (fun hb B4 H4 e4 a4 => ?_)
        · refine sv_ret (P := DD K (.int (i : Nat))) a4 (ed_var rfl (.int _)) fun v5 B5 H5 e5 a5 h5 => q _ B5 H5 a5.st ?_
          rw [fb, backK_some hi' hb hno]
          exact h5
        · refine ⟨B4, ((e1.trans e2).trans e3).trans e4, a4, ⟨_, _, _, rfl⟩, fun k hk => ?_⟩
          rcases Nat.lt_succ_iff_lt_or_eq.mp hk with h | rfl
          · exact hno k h
          · exact hb
    · rintro σ' B1 H1 e1 a1 ⟨⟨o1, o2, o3, rfl⟩, hno⟩
      refine sv_ret (P := DD K .none) a1 ed_non fun v5 B5 H5 e5 a5 h5 => q _ B5 H5 a5.st ?_
      rw [fb, backK_none fun k hk => hno k (by show k < ((n : Nat) : Int).toNat; omega)]
      exact h5
def fDue : List PyData → PyData
  | [k, r] => dueD k r
  | _ => .none
theorem due_num {k r : PyData} (h : (!isI k || (decide ((match k with | .int i => i | _ => 0) < 1) || decide (40 < (match k with | .int i => i | _ => 0)))) = true) : dueD k r = .tuple [.str "number", k] := by
  cases k with
  | int n =>
    have h' : n < 1 ∨ 40 < n := by simpa [isI] using h
    unfold dueD
    simp only
    rw [if_neg (by omega)]
  | _ => rfl
theorem due_rules {n : Int} {r : PyData} (h0 : 1 ≤ n ∧ n ≤ 40) (h : rulesD r n = false) : dueD (.int n) r = .tuple [.str "rules", r] := by
  unfold dueD
  simp only
  rw [if_pos h0, h, if_neg (by decide)]
theorem due_back {n : Int} {rs : List PyData} (h0 : 1 ≤ n ∧ n ≤ 40) (h : rulesD (.tuple rs) n = true) : dueD (.int n) (.tuple rs) = (match backK (edges rs) n.toNat with | none => .tuple [.str "kept", .int n, .tuple rs] | some b => .tuple [.str "endless", .int b]) := by
  unfold dueD
  simp only
  rw [if_pos h0, if_pos h]
  first
    | done
    | cases backK (edges rs) n.toNat <;> rfl
theorem rules_all {rs : List PyData} {n : Int} (h : rulesD (.tuple rs) n = true) : 1 ≤ rs.length ∧ rs.length ≤ 90 ∧ ∀ r ∈ rs, ruleD r n = true := by
  rw [rulesD_tup, Bool.and_eq_true, Bool.and_eq_true, decide_eq_true_eq, decide_eq_true_eq, List.all_eq_true] at h
  exact ⟨by omega, by omega, h.2⟩
end
end K33

namespace K33
open PySem PySem.Spec PyProof.Rows L2 Evl Ex Dx
open PySem.PyData (strOk)

section
variable {P : Program} {w : World} {K : PySem.W.Frag} {mg : Str → Option Value} {base : Heap} {f : Addr} {fd : FuncData}

/-! ### what is new in a heap, alone -/
def rst (B H H' : Hp) : Hp := fun a => if ((H a).isSome && (B a).isNone) = true then none else H' a
theorem rst_old {B H H' : Hp} {a : Addr} {o : HO} (e : Ex B H) (e' : Ex H H') (h : B a = some o) : rst B H H' a = some o := by
  unfold rst
  rw [h, if_neg (by simp)]
  exact e' _ _ (e _ _ h)
theorem rst_new {B H H' : Hp} {a : Addr} (h : H a = none) : rst B H H' a = H' a := by
  unfold rst
  rw [h, if_neg (by simp)]
theorem rst_sub {B H H' : Hp} {a : Addr} {o : HO} (h : rst B H H' a = some o) : H' a = some o := by
  unfold rst at h
  split at h
  · cases h
  · exact h
theorem rst_step {B H H' : Hp} (e : Ex B H) (e' : Ex H H') : Step (fun _ => False) B H (rst B H H') H' :=
  ⟨fun a o h => rst_old e e' h, fun a o h => rst_sub h, fun a o _ h => e' _ _ h, fun a h n => by
    unfold rst
    rw [h, if_pos]
    cases hh : H a with
    | none => exact absurd hh n.ne
    | some o => rfl, (fun a n => by
    cases hh : H a with
    | none => exact absurd hh n
    | some o =>
      rw [e' _ _ hh]
      exact fun z => nomatch z), fun a ⟨o, h, n⟩ => ⟨o, e' _ _ h, n⟩⟩
theorem ddAll_int {H : Hp} : ∀ S : List Int, DdAll K H (S.map V.int) (S.map .int)
  | [] => .nil
  | i :: S => .cons (.int i) (ddAll_int S)
theorem dd_ints {H : Hp} {a : Addr} {S : List Int} (h : H a = some (.lst (S.map V.int))) (hl : S.length ≤ 16777216) : Dd K H (.ref a) (.list (S.map .int)) := .lst h (by rw [List.length_map, sizeLine_eq]; exact hl) (ddAll_int S)
theorem ints_dd {H : Hp} : ∀ {S : List Int} {vs : List V}, DdAll K H vs (S.map .int) → vs = S.map V.int
  | [], _, h => by cases h; rfl
  | i :: S, _, h => by
    cases h with
    | cons a t =>
      rw [dd_int a, ints_dd t]
      rfl
theorem ddAll_of {H : Hp} : ∀ {vs : List V} {ds : List PyData}, vs.length = ds.length → (∀ (i : Nat) (v : V) (d : PyData), vs[i]? = some v → ds[i]? = some d → Dd K H v d) → DdAll K H vs ds
  | [], [], _, _ => .nil
  | [], _ :: _, h, _ => by simp at h
  | _ :: _, [], h, _ => by simp at h
  | v :: vs, d :: ds, h, g => .cons (g 0 v d rfl rfl) (ddAll_of (by simpa using h) fun i v d h1 h2 => g (i + 1) v d (by simpa using h1) (by simpa using h2))
def adj (E : List (Int × Int)) (k : Int) : List Int := (E.filter fun p => p.1 == k).map (·.2)
theorem mem_adj {E : List (Int × Int)} {k x : Int} : x ∈ adj E k ↔ (k, x) ∈ E := by
  unfold adj
  rw [List.mem_map]
  constructor
  · rintro ⟨⟨a, b⟩, h, rfl⟩
    obtain ⟨h1, h2⟩ := List.mem_filter.mp h
    rw [beq_iff_eq] at h2
    exact h2 ▸ h1
  · intro h
    exact ⟨(k, x), List.mem_filter.mpr ⟨h, beq_self_eq_true k⟩, rfl⟩
theorem adj_len (E : List (Int × Int)) (k : Int) : (adj E k).length ≤ E.length := by
  unfold adj
  rw [List.length_map]
  exact List.length_filter_le _ _
theorem adj_snoc (E : List (Int × Int)) (a c k : Int) : adj (E ++ [(a, c)]) k = adj E k ++ (if a = k then [c] else []) := by
  unfold adj
  rw [List.filter_append, List.map_append]
  congr 1
  by_cases h : a = k
  · rw [if_pos h, List.filter_cons, if_pos (beq_iff_eq.mpr h)]
    rfl
  · rw [if_neg h, List.filter_cons, if_neg (fun z => h (beq_iff_eq.mp z))]
    rfl
def adjD (E : List (Int × Int)) (n : Nat) : PyData := .list ((List.range n).map fun k => .list ((adj E (k : Nat)).map .int))
/-! ### steps_of -/
structure Rep (H0 H : Hp) (Dl : Addr) (refs : List Addr) (c : Nat → List Int) : Prop where
  ex : Ex H0 H
  fD : H0 Dl = none
  hD : H Dl = some (.lst (refs.map V.ref))
  nd : refs.Nodup
  it : ∀ i r, refs[i]? = some r → H0 r = none ∧ r ≠ Dl ∧ H r = some (.lst ((c i).map V.int))
theorem Rep.mono {H0 H H' : Hp} {Dl : Addr} {refs : List Addr} {c : Nat → List Int} (R : Rep H0 H Dl refs c) (e : Ex H H') : Rep H0 H' Dl refs c := ⟨R.ex.trans e, R.fD, e _ _ R.hD, R.nd, fun i r h => ⟨(R.it i r h).1, (R.it i r h).2.1, e _ _ (R.it i r h).2.2⟩⟩
theorem Rep.data {B H0 H : Hp} {Dl : Addr} {refs : List Addr} {c : Nat → List Int} {n : Nat} (R : Rep H0 H Dl refs c) (e : Ex B H0) (hn : refs.length = n) (h1 : n ≤ 16777216) (h2 : ∀ i, i < n → (c i).length ≤ 16777216) : Dd K (rst B H0 H) (.ref Dl) (.list ((List.range n).map fun k => .list ((c k).map .int))) := by
  refine .lst ((rst_new R.fD).trans R.hD) (by rw [List.length_map, sizeLine_eq, hn]; exact h1) (ddAll_of (by rw [List.length_map, List.length_map, List.length_range, hn]) fun i v d hv hd => ?_)
  obtain ⟨r, hr, rfl⟩ : ∃ r, refs[i]? = some r ∧ V.ref r = v := by
    rw [List.getElem?_map] at hv
    cases hh : refs[i]? with
    | none => rw [hh] at hv; cases hv
    | some r => rw [hh] at hv; exact ⟨r, rfl, by simpa using hv⟩
  have hi : i < n := by
    rw [← hn]
    exact (List.getElem?_eq_some_iff.mp hr).1
  obtain ⟨f1, _, g1⟩ := R.it i r hr
  rw [List.getElem?_map, List.getElem?_range hi] at hd
  obtain rfl : PyData.list ((c i).map .int) = d := by simpa using hd
  exact dd_ints ((rst_new f1).trans g1) (h2 i hi)
theorem edges_snoc1 {rs : List PyData} {i : Nat} {r : PyData} (h : rs[i]? = some r) (ho : isOne r = true) : edges (rs.take (i + 1)) = edges (rs.take i) ++ [edge r] := by
  rw [take_snoc h]
  unfold edges
  rw [List.filter_append, List.map_append, List.filter_cons, if_pos ho]
  rfl
theorem edges_snoc0 {rs : List PyData} {i : Nat} {r : PyData} (h : rs[i]? = some r) (ho : isOne r = false) : edges (rs.take (i + 1)) = edges (rs.take i) := by
  rw [take_snoc h]
  unfold edges
  rw [List.filter_append, List.filter_cons, if_neg (by rw [ho]; decide), List.filter_nil, List.append_nil]
def fSteps : List PyData → PyData
  | [.int n, .tuple rs] => adjD (edges rs) n.toNat
  | _ => .none
def preS (ds : List PyData) : Prop := ∃ (rs : List PyData) (n : Nat), ds = [.int (n : Nat), .tuple rs] ∧ rs.length ≤ 100 ∧ n ≤ 40 ∧ ∀ r ∈ rs, ruleD r n = true
theorem okH {H : Hp} : Ok Fm.pure H H := Ok.any (Ex.refl H)

abbrev s_steps_of : Stmt := topS 25
abbrev N_steps_of : List Str := ["kinds", "rules", "steps", "rule", "_"]
theorem sc_steps_of : FnScope N_steps_of ["kinds", "rules"] (defScope s_steps_of) := ⟨rfl, rfl, rfl, by decide +kernel, rfl, by decide +kernel, by decide +kernel⟩
theorem ok_steps_of (F : Fun K "steps_of" "steps_of" s_steps_of f fd) (T : TC K mg) : FnOk P w K mg base CX0 1 f fd ["kinds", "rules"] (spF K preS fSteps) := by
  refine F.ok sc_steps_of (fun vs H Q E h => ?_) (fun cdv A outer s H vs Q E hr h => ?_)
  · obtain ⟨B, ds, e, hd, ⟨rs, n, rfl, _⟩, q⟩ := h
    exact hd.len
  · obtain ⟨B, ds, e, hd, ⟨rs, n, rfl, hl, hn, hval⟩, q⟩ := h
    obtain ⟨v, v2, rfl, hv, hv2⟩ := arg2 hd
    obtain rfl := dd_int hv
    obtain ⟨t, us, rfl, ht, _, htd⟩ := dd_tup hv2
    obtain ⟨WO, gO, hO⟩ := T.w_ONE.ex
    refine ⟨_, (pss_cons (ps_setLc (i := 2) (own := [("_", 4)]) rfl sc_steps_of.nd rfl rfl (sw_true rfl rfl rfl (by decide +kernel)) (pi_range1 rfl T.m_range (pa_cons (pv 0) pa_nil)) (blkOk_by (own := [("_", 4)]) (N := N_steps_of) (sc := defScope s_steps_of) (by decide +kernel)) (fun _ _ _ _ _ => pg_name (i := 4) sc_steps_of.nd rfl (Or.inl rfl)) (fun _ _ _ _ _ => pts_nil) (fun _ _ _ _ _ => (pe_lst pa_nil)))
      (pss_cons (ps_for PassesOwn.never rfl (pi_seqK K (pv 1)) (pg_name (i := 3) sc_steps_of.nd rfl (Or.inl rfl)) (pss_one (ps_if (pt_cmpR (op_inK K) (pe_ix (ix_seqK K) (pv 3) pe_int (fun _ _ => rfl)) (pe_glob (v := .ref WO) rfl gO rfl) (by rfl)) (pss_one (ps_expr (pe_bm PySem.F.plainAttrs_list PySem.F.slot_list_append PySem.F.type_list_append mt_append (pe_ix (ix_seqK K) (pv 2) (pe_ix (ix_seqK K) (pv 3) pe_int (fun _ _ => rfl)) (fun _ _ => rfl)) (pa_cons (pe_ix (ix_seqK K) (pv 3) pe_int (fun _ _ => rfl)) pa_nil)))) pss_nil)))
      (pss_one (ps_ret (pv 2))))), ?_⟩
    refine ⟨.int (n : Nat), rfl, (n : Nat), rfl, by omega, by omega, fun Dl hDl => lc_range (lo := 0) (n := n) (fun i H' => ∃ refs : List Addr, refs.length = i ∧ Rep H H' Dl refs fun _ => []) ⟨[], rfl, Ex.new hDl, hDl, upd_same, List.nodup_nil, fun i r h => by simp at h⟩ (fun i H' hi ⟨refs, hlen, R⟩ => ?_) (fun H1 ⟨refs, hlen, R⟩ => ?_)⟩
    · refine ⟨rfl, ?_⟩
      show _ ∧ _
      refine ⟨Nat.zero_le _, fun a ha => ?_⟩
      have hal : a ≠ Dl := fun z => by rw [z, R.hD] at ha; cases ha
      have h0a : H a = none := fresh_back R.ex ha
      refine ⟨refs.map V.ref, by rw [upd_ne (Ne.symm hal)]; exact R.hD, by rw [List.length_map, sizeLine_eq, hlen]; omega, refs ++ [a], by rw [List.length_append, hlen]; rfl, ?_⟩
      refine ⟨fun x o h => ?_, R.fD, by rw [upd_same, List.map_append]; rfl, ?_, fun j r hj => ?_⟩
      · have n1 : x ≠ a := ne_of_none h h0a
        have n2 : x ≠ Dl := ne_of_none h R.fD
        rw [upd_ne n2, upd_ne n1]
        exact R.ex _ _ h
      · rw [List.nodup_append]
        refine ⟨R.nd, by simp, fun x hx y hy => ?_⟩
        rw [List.mem_singleton] at hy
        subst hy
        obtain ⟨j, hj⟩ := List.getElem?_of_mem hx
        intro z
        subst z
        rw [(R.it j x hj).2.2] at ha
        cases ha
      · by_cases hlt : j < refs.length
        · rw [List.getElem?_append_left hlt] at hj
          obtain ⟨r1, r2, r3⟩ := R.it j r hj
          refine ⟨r1, r2, ?_⟩
          have n1 : r ≠ a := fun z => by rw [z, ha] at r3; cases r3
          rw [upd_ne r2, upd_ne n1]
          exact r3
        · rw [List.getElem?_append_right (by omega)] at hj
          have hj0 : j - refs.length = 0 := by
            have := (List.getElem?_eq_some_iff.mp hj).1
            simp at this
            omega
          rw [hj0] at hj
          obtain rfl : a = r := by simpa using hj
          exact ⟨h0a, hal, by rw [upd_ne hal, upd_same]; rfl⟩
    · refine ⟨.ref t, rfl, t, rfl, .inr ⟨⟨us, ex_t (e.trans R.ex) ht⟩, for_tup (K := K) (xs := us) (fun i σ' H' => (∃ o, σ' = [some (.int (n : Nat)), some (.ref t), some (.ref Dl), o, none]) ∧ Rep H H' Dl refs fun k => adj (edges (rs.take i)) (k : Nat)) ⟨⟨none, rfl⟩, R⟩ (fun i σ' H' _ ⟨_, R'⟩ => ex_t (e.trans R'.ex) ht) (fun i x σ' H' hx ⟨⟨o, ho⟩, R'⟩ => ?_) (fun σ' H' ⟨⟨o, ho⟩, R'⟩ => ?_)⟩⟩
      · subst ho
        obtain ⟨r, hr1, hr2⟩ := htd.getv hx
        have hrd : Dd K H' x r := hr2.up (e.trans R'.ex)
        have hval1 := hval r (List.mem_of_getElem? hr1)
        obtain ⟨a, sh, p, ps, rfl, ha0, ha1, htl⟩ := ruleD_is hval1
        have tst : ETt Fm.pure (tTest (tOp (rIn K false) (tOp (rIx K) (tVar 3) (tC (.int 1))) (tC (.ref WO)))) [some (.int (n : Nat)), some (.ref t), some (.ref Dl), some x, none] H' (inS sh OSH) := et_cmp (inST (ed_op (ed_var rfl hrd) ed_int (rd_ixT at3_1)) (ed_v (hO H')))
        refine tst H' (Ex.refl H') H' okH _ fun B2 H2 s2 j2 => ?_
        have R2 := R'.mono s2.ex
        by_cases hone : inS sh OSH = true
        · rw [hone]
          rw [if_pos rfl]
          obtain ⟨rfl, c, rfl, c0, c1⟩ := tailD_one htl hone
          have hrd2 : Dd K H2 x (.tuple [.int a, .str sh, .int c]) := hrd.up s2.ex
          refine ⟨.ref Dl, rfl, ?_⟩
          have ia : ED Fm.pure K (tOp (rIx K) (tVar 3) (tC (.int 0))) [some (.int (n : Nat)), some (.ref t), some (.ref Dl), some x, none] H2 (.int a) := ed_op (ed_var rfl hrd2) ed_int (rd_ixT at3_0)
          refine ia H2 (Ex.refl H2) H2 okH _ fun va B3 H3 s3 j3 ga => ?_
          obtain rfl := dd_int ga
          have R3 := R2.mono s3.ex
          have hlt : a.toNat < refs.length := by rw [hlen]; omega
          obtain ⟨r, hr⟩ : ∃ r, refs[a.toNat]? = some r := ⟨_, List.getElem?_eq_getElem hlt⟩
          have en : ((a.toNat : Nat) : Int) = a := by omega
          refine .inl ⟨Dl, refs.map V.ref, a, .ref r, rfl, rfl, sq_of R3.hD, at_of en.symm (by rw [List.getElem?_map, hr]; rfl), ?_⟩
          obtain ⟨r1, r2, r3⟩ := R3.it _ r hr
          refine ⟨.inl ⟨rfl, _, sq_of r3⟩, ?_⟩
          have ic : ED Fm.pure K (tOp (rIx K) (tVar 3) (tC (.int 2))) [some (.int (n : Nat)), some (.ref t), some (.ref Dl), some x, none] H3 (.int c) := ed_op (ed_var rfl (hrd2.up s3.ex)) ed_int (rd_ixT at3_2)
          refine ic H3 (Ex.refl H3) H3 okH _ fun vc B4 H4 s4 j4 gc => ?_
          obtain rfl := dd_int gc
          have R4 := R3.mono s4.ex
          obtain ⟨q1, q2, q3⟩ := R4.it _ r hr
          refine ⟨r, _, .int c, rfl, rfl, q3, ?_, ⟨_, rfl⟩, ?_⟩
          · have := adj_len (edges (rs.take i)) ((a.toNat : Nat) : Int)
            have h2 := edges_len (rs.take i)
            have h3 : (rs.take i).length ≤ rs.length := by rw [List.length_take]; exact Nat.min_le_right _ _
            rw [List.length_map, sizeLine_eq]
            omega
          · refine ⟨fun y o h => ?_, R4.fD, by rw [upd_ne (Ne.symm q2)]; exact R4.hD, R4.nd, fun j y hy => ?_⟩
            · rw [upd_ne (ne_of_none h q1)]
              exact R4.ex _ _ h
            · obtain ⟨y1, y2, y3⟩ := R4.it j y hy
              refine ⟨y1, y2, ?_⟩
              rw [edges_snoc1 hr1 hone]
              show upd H4 r _ y = some (.lst ((adj (edges (rs.take i) ++ [(a, c)]) ((j : Nat) : Int)).map V.int))
              rw [adj_snoc]
              by_cases hj : j = a.toNat
              · subst hj
                rw [hr] at hy
                cases hy
                rw [upd_same, if_pos en.symm, List.map_append]
                rfl
              · have nyr : y ≠ r := fun z => by
                  subst z
                  exact hj ((List.getElem?_inj (List.getElem?_eq_some_iff.mp hy).1 R4.nd).mp (hy.trans hr.symm))
                rw [upd_ne nyr, if_neg (by omega), List.append_nil]
                exact y3
        · have hone' : inS sh OSH = false := by simpa using hone
          rw [hone']
          rw [if_neg (by decide)]
          refine ⟨⟨some x, rfl⟩, ?_⟩
          rw [edges_snoc0 hr1 hone']
          exact R2
      · subst ho
        refine ⟨.ref Dl, rfl, ?_⟩
        have lr : us.length = rs.length := htd.len
        rw [lr, List.take_length] at R'
        refine q (.ref Dl) (rst B H H') H' (rst_step e R'.ex) ?_
        show Dd K _ _ (adjD (edges rs) ((n : Int)).toNat)
        refine R'.data e hlen (by omega) fun i _ => ?_
        have := adj_len (edges rs) ((i : Nat) : Int)
        have h2 := edges_len rs
        omega
end
end K33

namespace K33
open PySem PySem.Spec PyProof.Rows L2 Evl Ex Dx
open PySem.PyData (strOk)

section
variable {P : Program} {w : World} {K : PySem.W.Frag} {mg : Str → Option Value} {base : Heap} {f : Addr} {fd : FuncData}

/-! ### kinds_behind -/
structure KS (H0 H : Hp) (fa wa : Addr) (S Wt : List Int) : Prop where
  ex : Ex H0 H
  f0 : H0 fa = none
  w0 : H0 wa = none
  ne : fa ≠ wa
  hf : H fa = some (.lst (S.map V.int))
  hw : H wa = some (.lst (Wt.map V.int))
theorem KS.mono {H0 H H' : Hp} {fa wa : Addr} {S Wt : List Int} (R : KS H0 H fa wa S Wt) (e : Ex H H') : KS H0 H' fa wa S Wt := ⟨R.ex.trans e, R.f0, R.w0, R.ne, e _ _ R.hf, e _ _ R.hw⟩
theorem KS.setF {H0 H : Hp} {fa wa : Addr} {S Wt S' : List Int} (R : KS H0 H fa wa S Wt) : KS H0 (upd H fa (.lst (S'.map V.int))) fa wa S' Wt :=
  ⟨fun x o h => by rw [upd_ne (ne_of_none h R.f0)]; exact R.ex _ _ h, R.f0, R.w0, R.ne, upd_same, by rw [upd_ne (Ne.symm R.ne)]; exact R.hw⟩
theorem KS.setW {H0 H : Hp} {fa wa : Addr} {S Wt W' : List Int} (R : KS H0 H fa wa S Wt) : KS H0 (upd H wa (.lst (W'.map V.int))) fa wa S W' :=
  ⟨fun x o h => by rw [upd_ne (ne_of_none h R.w0)]; exact R.ex _ _ h, R.f0, R.w0, R.ne, by rw [upd_ne R.ne]; exact R.hf, upd_same⟩
def kjF : List Int → List Int → List Int → List Int × List Int
  | [], S, W => (S, W)
  | x :: rest, S, W => if S.contains x = true then kjF rest S W else kjF rest (S ++ [x]) (W ++ [x])
theorem kj_in {x : Int} {rest S W : List Int} (h : x ∈ S) : kjF (x :: rest) S W = kjF rest S W := by
  show (if S.contains x = true then kjF rest S W else kjF rest (S ++ [x]) (W ++ [x])) = _
  rw [if_pos (List.contains_iff_mem.mpr h)]
theorem kj_out {x : Int} {rest S W : List Int} (h : x ∉ S) : kjF (x :: rest) S W = kjF rest (S ++ [x]) (W ++ [x]) := by
  show (if S.contains x = true then kjF rest S W else kjF rest (S ++ [x]) (W ++ [x])) = _
  rw [if_neg fun z => h (List.contains_iff_mem.mp z)]
/-- the list that a walk ends with -/
inductive KRun (E : List (Int × Int)) : List Int → List Int → List Int → Prop
  | done (S : List Int) : KRun E S [] S
  | step {S W R : List Int} {a : Int} (h : KRun E (kjF (adj E a) S W).1 (kjF (adj E a) S W).2 R) : KRun E S (W ++ [a]) R
theorem snoc_inj {α : Type} {W W' : List α} {a a' : α} (h : W ++ [a] = W' ++ [a']) : W = W' ∧ a = a' := by
  have h1 := List.append_inj' h rfl
  exact ⟨h1.1, by simpa using h1.2⟩
theorem KRun.uniq {E : List (Int × Int)} {S W R R' : List Int} (h : KRun E S W R) : KRun E S W R' → R = R' := by
  induction h with
  | done S =>
    intro g
    generalize hw : ([] : List Int) = W0 at g
    cases g with
    | done => rfl
    | step g => simp at hw
  | step h ih =>
    intro g
    rename_i S0 W0 R0 a0
    generalize hw : W0 ++ [a0] = W1 at g
    cases g with
    | done => simp at hw
    | step g =>
      obtain ⟨rfl, rfl⟩ := snoc_inj hw
      exact ih g
structure MI (E : List (Int × Int)) (n : Nat) (k : Int) (S Wt : List Int) : Prop where
  run : ∀ R, KRun E S Wt R → KRun E [] [k] R
  sound : ∀ x ∈ S, Gm.Rch E k x
  nd : S.Nodup
  wt : ∀ x ∈ Wt, x = k ∨ x ∈ S
  cl : ∀ a b, (a, b) ∈ E → (a = k ∨ a ∈ S) → b ∈ S ∨ a ∈ Wt
/-- within the turn for at, rest: the steps from it that are still to look at -/
structure MJ (E : List (Int × Int)) (n : Nat) (k at' : Int) (rest S Wt : List Int) : Prop where
  run : ∀ R, KRun E (kjF rest S Wt).1 (kjF rest S Wt).2 R → KRun E [] [k] R
  sound : ∀ x ∈ S, Gm.Rch E k x
  nd : S.Nodup
  wt : ∀ x ∈ Wt, x = k ∨ x ∈ S
  at_ : at' = k ∨ at' ∈ S
  cl : ∀ a b, (a, b) ∈ E → (a = k ∨ a ∈ S) → b ∈ S ∨ a ∈ Wt ∨ (a = at' ∧ b ∈ rest)
section
variable {E : List (Int × Int)} {n : Nat} {k x at' : Int} {S Wt rest : List Int}
theorem MI.len (hE : ∀ a b, (a, b) ∈ E → 0 ≤ b ∧ b < (n : Int)) (h : MI E n k S Wt) : S.length ≤ n := Gm.pig n S h.nd fun y hy => by
  have r := h.sound y hy
  cases r with
  | one e => exact hE _ _ e
  | more _ e => exact hE _ _ e
theorem MJ.len (hE : ∀ a b, (a, b) ∈ E → 0 ≤ b ∧ b < (n : Int)) (h : MJ E n k at' rest S Wt) : S.length ≤ n := Gm.pig n S h.nd fun y hy => by
  have r := h.sound y hy
  cases r with
  | one e => exact hE _ _ e
  | more _ e => exact hE _ _ e
theorem MI.start : MI E n k [] [k] := ⟨fun R h => h, fun _ h => (nomatch h), List.nodup_nil, fun x hx => .inl (List.mem_singleton.mp hx), fun a b _ h => .inr (by
  rcases h with rfl | h
  · exact List.mem_singleton.mpr rfl
  · cases h)⟩
theorem MI.pop (h : MI E n k S (Wt ++ [at'])) : MJ E n k at' (adj E at') S Wt := ⟨fun R h' => h.run R (.step h'), h.sound, h.nd, fun x hx => h.wt x (List.mem_append_left _ hx), h.wt at' (List.mem_append_right _ (List.mem_singleton.mpr rfl)), fun a b hE ha => by
  rcases h.cl a b hE ha with h1 | h1
  · exact .inl h1
  · rcases List.mem_append.mp h1 with h2 | h2
    · exact .inr (.inl h2)
    · obtain rfl := List.mem_singleton.mp h2
      exact .inr (.inr ⟨rfl, mem_adj.mpr hE⟩)⟩
theorem MJ.skip (h : MJ E n k at' (x :: rest) S Wt) (hx : x ∈ S) : MJ E n k at' rest S Wt := ⟨fun R h' => h.run R (by rw [kj_in hx]; exact h'), h.sound, h.nd, h.wt, h.at_, fun a b hE ha => by
  rcases h.cl a b hE ha with h1 | h1 | ⟨h1, h2⟩
  · exact .inl h1
  · exact .inr (.inl h1)
  · rcases List.mem_cons.mp h2 with rfl | h3
    · exact .inl hx
    · exact .inr (.inr ⟨h1, h3⟩)⟩
theorem MJ.add (h : MJ E n k at' (x :: rest) S Wt) (hE : (at', x) ∈ E) (hx : x ∉ S) : MJ E n k at' rest (S ++ [x]) (Wt ++ [x]) := by
  have hr : Gm.Rch E k x := by
    rcases h.at_ with rfl | ha
    · exact .one hE
    · exact .more (h.sound _ ha) hE
  refine ⟨fun R h' => h.run R (by rw [kj_out hx]; exact h'), fun y hy => ?_, ?_, fun y hy => ?_, ?_, fun a b hab ha => ?_⟩
  · rcases List.mem_append.mp hy with h1 | h1
    · exact h.sound y h1
    · rw [List.mem_singleton.mp h1]
      exact hr
  · rw [List.nodup_append]
    refine ⟨h.nd, by simp, fun a ha b hb z => ?_⟩
    rw [List.mem_singleton.mp hb] at z
    exact hx (z ▸ ha)
  · rcases List.mem_append.mp hy with h1 | h1
    · rcases h.wt y h1 with h2 | h2
      · exact .inl h2
      · exact .inr (List.mem_append_left _ h2)
    · exact .inr (List.mem_append_right _ h1)
  · rcases h.at_ with h1 | h1
    · exact .inl h1
    · exact .inr (List.mem_append_left _ h1)
  · have old : (a = k ∨ a ∈ S) → b ∈ S ++ [x] ∨ a ∈ Wt ++ [x] ∨ (a = at' ∧ b ∈ rest) := fun ha' => by
      rcases h.cl a b hab ha' with h1 | h1 | ⟨h1, h2⟩
      · exact .inl (List.mem_append_left _ h1)
      · exact .inr (.inl (List.mem_append_left _ h1))
      · rcases List.mem_cons.mp h2 with rfl | h3
        · exact .inl (List.mem_append_right _ (List.mem_singleton.mpr rfl))
        · exact .inr (.inr ⟨h1, h3⟩)
    rcases ha with ha | ha
    · exact old (.inl ha)
    · rcases List.mem_append.mp ha with h1 | h1
      · exact old (.inr h1)
      · exact .inr (.inl (List.mem_append_right _ h1))
theorem MJ.done (h : MJ E n k at' [] S Wt) : MI E n k S Wt := ⟨fun R h' => h.run R h', h.sound, h.nd, h.wt, fun a b hE ha => by
  rcases h.cl a b hE ha with h1 | h1 | ⟨_, h2⟩
  · exact .inl h1
  · exact .inr h1
  · cases h2⟩
theorem MI.fin (h : MI E n k S []) (y : Int) : y ∈ S ↔ Gm.Rch E k y := ⟨h.sound y, fun r => Gm.closed_rch (fun a b hE ha => by
  rcases h.cl a b hE ha with h1 | h1
  · exact h1
  · cases h1) r⟩
end
def spKB (K : PySem.W.Frag) : Sp := fun vs H Q _ => ∃ (B : Hp) (E : List (Int × Int)) (n k : Nat) (v0 : V), Ex B H ∧ vs = [v0, .int (k : Nat)] ∧ Dd K B v0 (adjD E n) ∧ (∀ a b, (a, b) ∈ E → 0 ≤ b ∧ b < (n : Int)) ∧ k < n ∧ n ≤ 40 ∧ E.length ≤ 100 ∧
  ∀ v B' H' (S : List Int), Step (fun _ => False) B H B' H' → Dd K B' v (.list (S.map .int)) → (∀ x, x ∈ S ↔ Gm.Rch E (k : Nat) x) → KRun E [] [((k : Nat) : Int)] S → S.length ≤ n → Q v H'
theorem snoc_of {α : Type} {l : List α} (h : l ≠ []) : ∃ l' x, l = l' ++ [x] := ⟨l.dropLast, l.getLast h, (List.dropLast_concat_getLast h).symm⟩

abbrev s_kinds_behind : Stmt := topS 13
abbrev N_kinds_behind : List Str := ["steps", "kind", "found", "waiting", "at", "one"]
theorem sc_kinds_behind : FnScope N_kinds_behind ["steps", "kind"] (defScope s_kinds_behind) := ⟨rfl, rfl, rfl, by decide +kernel, rfl, by decide +kernel, by decide +kernel⟩
theorem ok_kinds_behind (F : Fun K "kinds_behind" "kinds_behind" s_kinds_behind f fd) (T : TC K mg) : FnOk P w K mg base CX0 1 f fd ["steps", "kind"] (spKB K) := by
  refine F.ok sc_kinds_behind (fun vs H Q E h => ?_) (fun cdv A outer s H vs Q E hr h => ?_)
  · obtain ⟨B, E, n, k, v0, e, rfl, _⟩ := h
    rfl
  · obtain ⟨B, E, n, k, v0, e, rfl, hv, hE, hk, hn, hlen, q⟩ := h
    obtain ⟨a0, xs0, rfl, h0, l0, d0⟩ := dd_lst hv
    refine ⟨_, (pss_cons (ps_set (i := 2) sc_kinds_behind.nd rfl (Or.inl rfl) (pe_lst pa_nil))
      (pss_cons (ps_set (i := 3) sc_kinds_behind.nd rfl (Or.inl rfl) (pe_lst (pa_cons (pv 1) pa_nil)))
      (pss_cons (ps_while PassesOwn.never (pt_tru K (pv 3)) (pss_cons (ps_set (i := 4) sc_kinds_behind.nd rfl (Or.inl rfl) (pe_bm0 PySem.F.plainAttrs_list PySem.F.slot_list_pop PySem.F.type_list_pop mt_pop (pv 3)))
      (pss_one (ps_for PassesOwn.never rfl (pi_seqK K (pe_ix (ix_seqK K) (pv 0) (pv 4) (fun _ _ => rfl))) (pg_name (i := 5) sc_kinds_behind.nd rfl (Or.inl rfl)) (pss_one (ps_if (pt_cmpR (op_ninK K) (pv 5) (pv 2) (by rfl)) (pss_cons (ps_expr (pe_bm PySem.F.plainAttrs_list PySem.F.slot_list_append PySem.F.type_list_append mt_append (pv 2) (pa_cons (pv 5) pa_nil)))
      (pss_one (ps_expr (pe_bm PySem.F.plainAttrs_list PySem.F.slot_list_append PySem.F.type_list_append mt_append (pv 3) (pa_cons (pv 5) pa_nil))))) pss_nil))))))
      (pss_one (ps_ret (pv 2)))))), ?_⟩
    refine ⟨Nat.zero_le _, fun fa hfa => ?_⟩
    refine ⟨.int (k : Nat), rfl, by show 1 ≤ sizeLine; decide, fun wa hwa => ?_⟩
    have nfw : fa ≠ wa := fun z => by rw [← z, upd_same] at hwa; cases hwa
    have w0 : H wa = none := by rw [upd_ne (Ne.symm nfw)] at hwa; exact hwa
    have K0 : KS H (upd (upd H fa (.lst [])) wa (.lst [.int (k : Nat)])) fa wa [] [(k : Int)] := ⟨fun x o h => by rw [upd_ne (ne_of_none h w0), upd_ne (ne_of_none h hfa)]; exact h, hfa, w0, nfw, by rw [upd_ne nfw, upd_same]; rfl, upd_same⟩
    refine ⟨fun m σ' H' => ∃ o1 o2 S Wt, σ' = [some (.ref a0), some (.int (k : Nat)), some (.ref fa), some (.ref wa), o1, o2] ∧ KS H H' fa wa S Wt ∧ MI E n (k : Nat) S Wt ∧ m = 2 * (n - S.length) + Wt.length ∧ m ≤ 100, ⟨_, none, none, [], [(k : Int)], rfl, K0, MI.start, rfl, by show 2 * (n - 0) + 1 ≤ 100; omega⟩, ?_⟩
    rintro m σ' H' ⟨o1, o2, S, Wt, rfl, R, M, rfl, hm0⟩
    have hSl := M.len hE
    have hWd : ∀ H2, Ex H' H2 → True := fun _ _ => trivial
    have tw : ETt Fm.pure (fun σ H Q => tVar 3 σ H fun x H' => ∃ k, TruV K x H' k ∧ Q k H') [some (.ref a0), some (.int (k : Nat)), some (.ref fa), some (.ref wa), o1, o2] H' (!Wt.isEmpty) := by
      intro B1 e1 H1 j1 Q1 q1
      refine ⟨.ref wa, rfl, !Wt.isEmpty, .inl ⟨Wt.map V.int, sq_of (j1.e _ _ (e1 _ _ R.hw)), ?_⟩, q1 B1 H1 (Step.refl j1.e) j1⟩
      cases Wt <;> rfl
    refine tw H' (Ex.refl H') H' okH _ fun B2 H2 s2 j2 => ?_
    have R2 := R.mono s2.ex
    by_cases hW : Wt = []
    · subst hW
      rw [show (!([] : List Int).isEmpty) = false from rfl, if_neg (by decide)]
      refine ⟨.ref fa, rfl, ?_⟩
      refine q (.ref fa) (rst B H H2) H2 S (rst_step e R2.ex) (dd_ints ((rst_new R2.f0).trans R2.hf) (by omega)) M.fin (M.run S (.done S)) hSl
    · obtain ⟨W', at', rfl⟩ := snoc_of hW
      have hb : (!(W' ++ [at']).isEmpty) = true := by
        cases W' <;> rfl
      rw [hb, if_pos rfl]
      refine ⟨_, fun σ2 H3 q => q, ?_⟩
      refine ⟨.ref wa, rfl, .inl ⟨rfl, _, sq_of R2.hw⟩, ?_⟩
      refine ⟨wa, _, .int at', rfl, rfl, R2.hw, by rw [List.map_append, List.length_append]; simp, ?_⟩
      have R3 : KS H (upd H2 wa (.lst ((W'.map V.int)))) fa wa S W' := R2.setW
      have ed : ((W' ++ [at']).map V.int).dropLast = W'.map V.int := by rw [List.map_append, List.map_singleton, List.dropLast_concat]
      rw [ed]
      have MJ0 := M.pop
      have hat : 0 ≤ at' ∧ at' < (n : Int) := by
        rcases MJ0.at_ with h | h
        · omega
        · have r := M.sound _ h
          cases r with
          | one e => exact hE _ _ e
          | more _ e => exact hE _ _ e
      have en : ((at'.toNat : Nat) : Int) = at' := by omega
      have hdat : ((List.range n).map fun k => PyData.list ((adj E (k : Nat)).map .int))[at'.toNat]? = some (.list ((adj E at').map .int)) := by
        rw [List.getElem?_map, List.getElem?_range (by omega), Option.map_some, en]
      obtain ⟨vl, hvl, hdl⟩ := d0.get hdat
      obtain ⟨l, ys, rfl, hl, _, dl⟩ := dd_lst hdl
      obtain rfl := ints_dd dl
      have hSq0 : ∀ H3, Ex H H3 → SqL K H3 a0 xs0 := fun H3 e3 => ex_l (e.trans e3) (sq_of h0)
      have hSql : ∀ H3, Ex H H3 → SqL K H3 l ((adj E at').map V.int) := fun H3 e3 => ex_l (e.trans e3) (sq_of hl)
      refine ⟨.ref a0, rfl, .int at', rfl, .inl ⟨a0, xs0, at', .ref l, rfl, rfl, hSq0 _ R3.ex, at_of en.symm hvl, ?_⟩⟩
      refine ⟨l, rfl, .inl ⟨⟨_, hSql _ R3.ex⟩, for_list (K := K) (xs := (adj E at').map V.int) (fun i σ' H' => ∃ o S' Wt', σ' = [some (.ref a0), some (.int (k : Nat)), some (.ref fa), some (.ref wa), some (.int at'), o] ∧ KS H H' fa wa S' Wt' ∧ MJ E n (k : Nat) at' ((adj E at').drop i) S' Wt' ∧ 2 * (n - S'.length) + Wt'.length < 2 * (n - S.length) + (W' ++ [at']).length) ⟨o2, S, W', rfl, R3, MJ0, by rw [List.length_append]; show _ < _ + (_ + 1); omega⟩ (fun i σ' H' _ ⟨_, _, _, _, R', _⟩ => hSql _ R'.ex) (fun i x σ' H' hx ⟨o, S', Wt', ho, R', M', hm⟩ => ?_) (fun σ' H' ⟨o, S', Wt', ho, R', M', hm⟩ => ?_)⟩⟩
      · subst ho
        obtain ⟨y, hy, rfl⟩ : ∃ y, (adj E at')[i]? = some y ∧ V.int y = x := by
          rw [List.getElem?_map] at hx
          cases hh : (adj E at')[i]? with
          | none => rw [hh] at hx; cases hx
          | some y => rw [hh] at hx; exact ⟨y, rfl, by simpa using hx⟩
        have hdrop : (adj E at').drop i = y :: (adj E at').drop (i + 1) := by
          obtain ⟨hlt, he⟩ := List.getElem?_eq_some_iff.mp hy
          rw [List.drop_eq_getElem_cons hlt, he]
        rw [hdrop] at M'
        have hSl' := M'.len hE
        have hyE : (at', y) ∈ E := mem_adj.mp (List.mem_of_getElem? hy)
        have fd : Dd K H' (.ref fa) (.list (S'.map .int)) := dd_ints R'.hf (by omega)
        have tst : ETt Fm.pure (tTest (tOp (rIn K true) (tVar 5) (tVar 2))) [some (.ref a0), some (.int (k : Nat)), some (.ref fa), some (.ref wa), some (.int at'), some (.int y)] H' (!S'.contains y) := et_is (et_cmp (ed_op (ed_var rfl (.int y)) (ed_var rfl fd) (rd_notin (.inl rfl) rfl (flatI _)))) (congrArg Bool.not (inD_int _ _))
        refine tst H' (Ex.refl H') H' okH _ fun B4 H4 s4 j4 => ?_
        have R4 := R'.mono s4.ex
        by_cases hc : S'.contains y = true
        · rw [hc, show (!true) = false from rfl, if_neg (by decide)]
          exact ⟨_, S', Wt', rfl, R4, M'.skip (List.contains_iff_mem.mp hc), hm⟩
        · have hc' : S'.contains y = false := by simpa using hc
          have hny : y ∉ S' := fun z => hc (List.contains_iff_mem.mpr z)
          rw [hc', show (!false) = true from rfl, if_pos rfl]
          have M5 := M'.add hyE hny
          have hSl5 := M5.len hE
          rw [List.length_append, List.length_singleton] at hSl5
          refine ⟨.ref fa, rfl, .inl ⟨rfl, _, sq_of R4.hf⟩, .int y, rfl, fa, _, .int y, rfl, rfl, R4.hf, by rw [List.length_map, sizeLine_eq]; omega, ?_⟩
          have e5 : S'.map V.int ++ [V.int y] = (S' ++ [y]).map V.int := by rw [List.map_append]; rfl
          rw [e5]
          have R5 : KS H (upd H4 fa (.lst ((S' ++ [y]).map V.int))) fa wa (S' ++ [y]) Wt' := R4.setF
          refine ⟨.ref wa, rfl, .inl ⟨rfl, _, sq_of R5.hw⟩, .int y, rfl, wa, _, .int y, rfl, rfl, R5.hw, by rw [List.length_map, sizeLine_eq]; omega, ?_⟩
          have e6 : Wt'.map V.int ++ [V.int y] = (Wt' ++ [y]).map V.int := by rw [List.map_append]; rfl
          rw [e6]
          refine ⟨_, S' ++ [y], Wt' ++ [y], rfl, R5.setW, M5, ?_⟩
          rw [List.length_append, List.length_append, List.length_singleton]
          omega
      · subst ho
        have M6 : MI E n (k : Nat) S' Wt' := by
          rw [List.length_map, List.drop_length] at M'
          exact M'.done
        exact ⟨2 * (n - S'.length) + Wt'.length, hm, _, _, S', Wt', rfl, R', M6, rfl, by omega⟩
end
end K33

namespace K33
open PySem PySem.Spec PyProof.Rows L2 Evl Ex Dx
open PySem.PyData (strOk)

section
variable {P : Program} {w : World} {K : PySem.W.Frag} {mg : Str → Option Value} {base : Heap} {f : Addr} {fd : FuncData}

def spEK (K : PySem.W.Frag) : Sp := fun vs H Q _ => ∃ (B : Hp) (E : List (Int × Int)) (n : Nat) (v0 : V), Ex B H ∧ vs = [v0] ∧ Dd K B v0 (adjD E n) ∧ (∀ a b, (a, b) ∈ E → 0 ≤ b ∧ b < (n : Int)) ∧ n ≤ 40 ∧ E.length ≤ 100 ∧
  ∀ v B' H', Step (fun _ => False) B H B' H' → Dd K B' v (optD (backK E n)) → Q v H'
theorem lenAdj (E : List (Int × Int)) (n : Nat) : lenD (adjD E n) = (n : Nat) := by
  show ((((List.range n).map fun k => PyData.list ((adj E (k : Nat)).map .int)).length : Nat) : Int) = _
  rw [List.length_map, List.length_range]

abbrev s_endless_kind : Stmt := topS 12
abbrev N_endless_kind : List Str := ["steps", "kind"]
theorem sc_endless_kind : FnScope N_endless_kind ["steps"] (defScope s_endless_kind) := ⟨rfl, rfl, rfl, by decide +kernel, rfl, by decide +kernel, by decide +kernel⟩
theorem ok_endless_kind (F : Fun K "endless_kind" "endless_kind" s_endless_kind f fd) (T : TC K mg) (C_kinds_behind : Callee P w K mg base "kinds_behind" 1 ["steps", "kind"] (spKB K)) : FnOk P w K mg base CX0 2 f fd ["steps"] (spEK K) := by
  refine F.ok sc_endless_kind (fun vs H Q E h => ?_) (fun cdv A outer s H vs Q E hr h => ?_)
  · obtain ⟨B, E, n, v0, e, rfl, _⟩ := h
    rfl
  · obtain ⟨B, ED_, n, vs, e, rfl, hs, hE, hn, hEl, q⟩ := h
    refine ⟨_, (pss_cons (ps_for PassesOwn.never rfl (pi_range1 rfl T.m_range (pa_cons (pe_callB (call_lenK K) (by rfl) T.m_len bt_len (pa_cons (pv 0) pa_nil)) pa_nil)) (pg_name (i := 1) sc_endless_kind.nd rfl (Or.inl rfl)) (pss_one (ps_if (pt_cmpR (op_inK K) (pv 1) (pe_callC C_kinds_behind (hr.mono (by decide)) rfl pass0 (pa_cons (pv 0) (pa_cons (pv 1) pa_nil))) (by rfl)) (pss_one (ps_ret (pv 1))) pss_nil)))
      (pss_one (ps_ret pe_non))), ?_⟩
    have a : At Fm.pure B H B H := At.start (Ok.any e)
    have key : ∀ k : Nat, (Gm.turns ED_ (k : Int) (n + 1)).contains (k : Int) = true ↔ Gm.Rch ED_ k k := fun k => by
      rw [List.contains_iff_mem]
      exact Gm.turns_all hE k
    refine qd_forR (K := K) (n := (n : Nat)) a (eds_cons (ed_is (ev_cb (eds_cons (ed_var rfl hs) eds_nil) (rc_len (x := adjD ED_ n) rfl)) (congrArg PyData.int (lenAdj ED_ n))) eds_nil) ⟨by omega, by omega⟩ (fun i σ' B' => (∃ o, σ' = [some vs, o]) ∧ ∀ k : Nat, k < i → (Gm.turns ED_ (k : Int) (n + 1)).contains (k : Int) = false) (fun B1 _ => ⟨⟨none, rfl⟩, fun k hk => absurd hk (Nat.not_lt_zero k)⟩) ?_ ?_
    · rintro Bb i σ' B2 H2 eb hi e2 a2 ⟨⟨o, rfl⟩, hno⟩
      have hi' : i < n := by omega
      have cb : EV Fm.pure (tCall (spKB K) [] E0 (tCons (tVar 0) (tCons (tVar 1) tNil))) [some vs, some (.int (i : Nat))] B2 (fun v B => ∃ S : List Int, Dd K B v (.list (S.map .int)) ∧ ∀ x, x ∈ S ↔ Gm.Rch ED_ (i : Nat) x) := fun B3 e3 H3 j3 Q3 q3 =>
        ⟨vs, rfl, .int (i : Nat), rfl, B3, ED_, n, i, vs, j3.e, rfl, hs.up ((eb.trans e2).trans e3), hE, hi', hn, hEl, fun v B' H' S s g hS _ _ => q3 v B' H' s.pure (j3.pure s) ⟨S, g, hS⟩⟩
      refine sv_if (b := (Gm.turns ED_ (i : Int) (n + 1)).contains (i : Int)) a2 (et_cmp (K := K) (ev_op (P := DD K (.int (i : Nat))) (ed_var rfl (.int (i : Nat))) cb upc_dd ?_)) (fun hb B4 H4 e4 a4 => ?_) (fun hb B4 H4 e4 a4 => ?_)
      · intro B3 e3 H3 u v j3 hu ⟨S, hS, hm⟩ Q3 q3
        refine rd_isin (F := Fm.pure) (K := K) (B := B3) (x := .int (i : Nat)) (y := .list (S.map .int)) (.inl rfl) rfl (flatI _) B3 (Ex.refl B3) H3 u v j3 hu hS Q3 fun w B' H' s j g => q3 w B' H' s j ?_
        rw [inD_int] at g
        have eb : S.contains ((i : Nat) : Int) = (Gm.turns ED_ (i : Int) (n + 1)).contains (i : Int) := by
          rw [Bool.eq_iff_iff, key, List.contains_iff_mem]
          exact hm _
        rw [eb] at g
        exact g
      · refine sv_ret (P := DD K (.int (i : Nat))) a4 (ed_var rfl (.int _)) fun v5 B5 H5 e5 a5 h5 => q _ B5 H5 a5.st ?_
        rw [backK_some hi' hb hno]
        exact h5
      · refine ⟨B4, e2.trans e4, a4, ⟨_, rfl⟩, fun k hk => ?_⟩
        rcases Nat.lt_succ_iff_lt_or_eq.mp hk with h | rfl
        · exact hno k h
        · exact hb
    · rintro σ' B2 H2 e2 a2 ⟨⟨o, rfl⟩, hno⟩
      refine sv_ret (P := DD K .none) a2 ed_non fun v5 B5 H5 e5 a5 h5 => q _ B5 H5 a5.st ?_
      rw [backK_none fun k hk => hno k (by show k < ((n : Nat) : Int).toNat; omega)]
      exact h5
theorem ev_ek {F : Fm} {σ : L2.St} {B : Hp} {te : TE} {E : List (Int × Int)} {n : Nat} (h : ED F K te σ B (adjD E n)) (hE : ∀ a b, (a, b) ∈ E → 0 ≤ b ∧ b < (n : Int)) (hn : n ≤ 40) (hl : E.length ≤ 100) : ED F K (tCall (spEK K) [] E0 (tCons te tNil)) σ B (optD (backK E n)) := fun B1 e0 H j Q q =>
  h B1 e0 H j _ fun v B2 H2 s2 j2 g => ⟨B2, E, n, v, j2.e, rfl, g, hE, hn, hl, fun v' B' H' s g' => q v' B' H' (s2.trans s.pure) (j2.pure s) g'⟩

/-! ### Pairs -/
structure TP (P : Program) (w : World) (K : PySem.W.Frag) (mg : Str → Option Value) (base : Heap) (c0 c1 c2 CP : Addr) : Prop extends TC K mg where
  x_InvalidNumber : ExcAt P w K mg base "InvalidNumber" "value" c0
  x_InvalidRules : ExcAt P w K mg base "InvalidRules" "value" c1
  x_Endless : ExcAt P w K mg base "Endless" "kind" c2
  g_Pairs : mg "Pairs" = some (.ref CP)
  cl : Cls K CP
  nk : NoAttr K CP "kinds"
  nr : NoAttr K CP "rules"
  ca : PySem.W.findIn K (.ref CP) "__class__" = some (some (.builtin "object.__class__"))
  sg : PySem.W.specialIn K (.builtin "object.__class__") "__get__" = some (some (.builtin "getset_descriptor.__get__"))
  tk : PySem.W.takesIn K (.builtin "object.__class__") = some true
  mo : PySem.W.mroIn K CP (.type "object") = some true
  kt1 : PySem.W.kitOne K (.ref CP) (.ref CP) = some true
  kt2 : PySem.W.kitOne K (.type "tuple") (.ref CP) = some false
  m00 : PySem.W.exmOne K (.ref c0) (.ref c0) = some true
  m10 : PySem.W.exmOne K (.ref c1) (.ref c0) = some false
  m11 : PySem.W.exmOne K (.ref c1) (.ref c1) = some true
  m20 : PySem.W.exmOne K (.ref c2) (.ref c0) = some false
  m21 : PySem.W.exmOne K (.ref c2) (.ref c1) = some false
  m22 : PySem.W.exmOne K (.ref c2) (.ref c2) = some true
/-- the frame of an object that stands just so -/
theorem ob_lv {x a : Addr} {o : HO} {H : Hp} (h : H x = some o) (m : a = x) (ho : nT o) : Liv H a := ⟨o, by rw [m]; exact h, ho⟩
theorem ob_fr {x a : Addr} {o o' : HO} {H : Hp} (h : H x = some o) (n : ¬ a = x) : upd H a o' x = some o := by
  rw [upd_ne (fun z => n z.symm)]
  exact h
def Fm.ob (x : Addr) (o : HO) (ho : nT o := by trivial) : Fm := ⟨fun a => a = x, fun H => H x = some o, fun _ _ e h => e _ _ h, fun _ _ h m => ob_lv h m ho, fun _ _ _ h n => ob_fr h n⟩
theorem ob_set {x : Addr} {o o' : HO} {B H : Hp} {ho : nT o} (k : Ok (Fm.ob x o ho) B H) (ho' : nT o' := by trivial) : Ok (Fm.ob x o' ho') B (upd H x o') ∧ Step (fun a => a = x) B H B (upd H x o') := by
  have bx : B x = none := k.av x rfl
  have hb : Ex B (upd H x o') := fun a u h => by
    rw [upd_ne (ne_of_none h bx)]
    exact k.e a u h
  exact ⟨⟨hb, upd_same, fun a m => by rw [show a = x from m]; exact bx⟩, Ex.refl B, hb, fun a u n h => by rw [upd_ne n]; exact h, fun a h _ => h, fun a n => by
    by_cases e : a = x
    · rw [e, upd_same]
      exact fun z => nomatch z
    · rw [upd_ne e]
      exact n, fun a n => by
    by_cases e : a = x
    · rw [e]
      exact liv_set ho'
    · exact n.upd e⟩
theorem rc_tupT {F : Fm} {B : Hp} {ds : List PyData} : RDc F K (fun xs H Q => ∃ p ys, xs = [.ref p] ∧ ((SqL K H p ys ∧ ∀ l, H l = none → Q (.ref l) (upd H l (.tup ys))) ∨ (SqT K H p ys ∧ Q (.ref p) H))) B [.tuple ds] (.tuple ds) := fun B1 e0 H us jj hu Q q => by
  obtain ⟨v, rfl, hv⟩ := arg1 hu
  obtain ⟨a, xs, rfl, h1, l1, g1⟩ := dd_tup hv
  exact ⟨a, xs, rfl, .inr ⟨ex_t jj.e h1, q _ B1 H (Step.refl jj.e) jj hv⟩⟩
theorem rc_tupA {F : Fm} {B : Hp} {d : PyData} (h : isTupD d = true) : RDc F K (fun xs H Q => ∃ p ys, xs = [.ref p] ∧ ((SqL K H p ys ∧ ∀ l, H l = none → Q (.ref l) (upd H l (.tup ys))) ∨ (SqT K H p ys ∧ Q (.ref p) H))) B [d] d := by
  obtain ⟨ds, rfl⟩ := tup_is h
  exact rc_tupT
theorem rule_tup {d : PyData} {n : Int} (h : ruleD d n = true) : isTupD d = true := by
  obtain ⟨a', s', p', ps', rfl, _⟩ := ruleD_is h
  rfl
theorem rc_tupL {F : Fm} {B : Hp} {ds : List PyData} : RDc F K (fun xs H Q => ∃ p ys, xs = [.ref p] ∧ ((SqL K H p ys ∧ ∀ l, H l = none → Q (.ref l) (upd H l (.tup ys))) ∨ (SqT K H p ys ∧ Q (.ref p) H))) B [.list ds] (.tuple ds) := fun B1 e0 H us jj hu Q q => by
  obtain ⟨v, rfl, hv⟩ := arg1 hu
  obtain ⟨a, xs, rfl, h1, l1, g1⟩ := dd_lst hv
  exact ⟨a, xs, rfl, .inl ⟨sq_of (jj.e _ _ h1), fun l hl => q _ _ _ (Step.alloc jj.e hl) (jj.alloc hl) (.tup (ta_of upd_same) l1 (g1.up (Ex.new (fresh_back jj.e hl))))⟩⟩
theorem rc_lstT {F : Fm} {B : Hp} {ds : List PyData} : RDc F K (fun xs H Q => ∃ p ys, xs = [.ref p] ∧ (SqL K H p ys ∨ SqT K H p ys) ∧ ∀ l, H l = none → Q (.ref l) (upd H l (.lst ys))) B [.tuple ds] (.list ds) := fun B1 e0 H us jj hu Q q => by
  obtain ⟨v, rfl, hv⟩ := arg1 hu
  obtain ⟨a, xs, rfl, h1, l1, g1⟩ := dd_tup hv
  exact ⟨a, xs, rfl, .inr (ex_t jj.e h1), fun l hl => q _ _ _ (Step.alloc jj.e hl) (jj.alloc hl) (.lst upd_same l1 (g1.up (Ex.new (fresh_back jj.e hl))))⟩
theorem call_tuple_ofK {X : Cx} (K : PySem.W.Frag) (hK : X.K = K := by rfl) : CallR X (.type "tuple") (fun xs H Q => ∃ p ys, xs = [.ref p] ∧ ((SqL K H p ys ∧ ∀ l, H l = none → Q (.ref l) (upd H l (.tup ys))) ∨ (SqT K H p ys ∧ Q (.ref p) H))) := by subst hK; exact call_tuple_of
theorem call_list_ofK {X : Cx} (K : PySem.W.Frag) (hK : X.K = K := by rfl) : CallR X (.type "list") (fun xs H Q => ∃ p ys, xs = [.ref p] ∧ (SqL K H p ys ∨ SqT K H p ys) ∧ ∀ l, H l = none → Q (.ref l) (upd H l (.lst ys))) := by subst hK; exact call_list_of
def spPairs (K : PySem.W.Frag) (CP c0 c1 c2 : Addr) : Sp := fun vs H Q E => ∃ (x dx : Addr) (B : Hp) (vk vr : V) (dk dr : PyData), vs = [.ref x, vk, vr] ∧ Ok (Fm.ob x (.ins CP dx [])) B H ∧ Dd K B vk dk ∧ Dd K B vr dr ∧
  (dueD dk dr = .tuple [.str "kept", dk, dr] → ∀ vk' vr' B' H', Step (fun a => a = x) B H B' H' → B' x = none → H' x = some (.ins CP dx [("kinds", vk'), ("rules", vr')]) → Dd K B' vk' dk → Dd K B' vr' dr → Q .non H') ∧
  (dueD dk dr = .tuple [.str "number", dk] → ∀ v dd B' H1 H', Step (fun a => a = x) B H B' H1 → Dd K B' v dk → Ex H1 H' → H' dd = some (.xd [("value", v)]) → E (.ref c0) (some dd) H') ∧
  (dueD dk dr = .tuple [.str "rules", dr] → ∀ v dd B' H1 H', Step (fun a => a = x) B H B' H1 → Dd K B' v dr → Ex H1 H' → H' dd = some (.xd [("value", v)]) → E (.ref c1) (some dd) H') ∧
  (∀ b : Int, dueD dk dr = .tuple [.str "endless", .int b] → ∀ v dd B' H1 H', Step (fun a => a = x) B H B' H1 → Dd K B' v (.int b) → Ex H1 H' → H' dd = some (.xd [("kind", v)]) → E (.ref c2) (some dd) H')
theorem due_num' {k r : PyData} (h : inB k 1 40 = false) : dueD k r = .tuple [.str "number", k] := by
  cases k with
  | int n =>
    have h' : ¬ (1 ≤ n ∧ n ≤ 40) := fun z => by
      unfold inB at h
      simp only [Bool.and_eq_false_iff, decide_eq_false_iff_not] at h
      omega
    unfold dueD
    simp only
    rw [if_neg h']
  | _ => rfl
theorem inB_is {k : PyData} {lo hi : Int} (h : inB k lo hi = true) : ∃ n : Int, k = .int n ∧ lo ≤ n ∧ n ≤ hi := by
  cases k with
  | int n =>
    unfold inB at h
    simp only [Bool.and_eq_true, decide_eq_true_eq] at h
    exact ⟨n, rfl, h.1, h.2⟩
  | _ => cases h
theorem rules_is {r : PyData} {n : Int} (h : rulesD r n = true) : ∃ rs, r = .tuple rs := by
  cases r with
  | tuple rs => exact ⟨rs, rfl⟩
  | _ => cases h

abbrev s_Pairs_init : Stmt := inClass (topS 21) 0
abbrev N_Pairs_init : List Str := ["self", "kinds", "rules", "endless", "rule"]
theorem sc_Pairs_init : FnScope N_Pairs_init ["self", "kinds", "rules"] (defScope s_Pairs_init) := ⟨rfl, rfl, rfl, by decide +kernel, rfl, by decide +kernel, by decide +kernel⟩
section
variable {c0 c1 c2 CP : Addr}
theorem ok_pairs (F : Fun K "__init__" "Pairs.__init__" s_Pairs_init f fd) (T : TP P w K mg base c0 c1 c2 CP) (C_is_between : Callee P w K mg base "is_between" 2 ["value", "low", "high"] (spBetween K)) (C_is_rules : Callee P w K mg base "is_rules" 4 ["value", "kinds"] (spF K (fun ds => ∃ d n, ds = [d, .int n]) fRules))
    (C_endless_kind : Callee P w K mg base "endless_kind" 2 ["steps"] (spEK K)) (C_steps_of : Callee P w K mg base "steps_of" 1 ["kinds", "rules"] (spF K preS fSteps)) : FnOk P w K mg base (L2.CX P w) 5 f fd ["self", "kinds", "rules"] (spPairs K CP c0 c1 c2) := by
  refine F.okX sc_Pairs_init (fun vs H Q E h => ?_) (fun cdv A outer s H vs Q E hr h => ?_)
  · obtain ⟨x, dx, B, vk, vr, dk, dr, rfl, _⟩ := h
    rfl
  · obtain ⟨x, dx, B, vk, vr, dk, dr, rfl, ok, hk, hrr, qk, qn, qr, qe⟩ := h
    refine ⟨_, (pss_cons (ps_if (pt_not (pt_val (pe_callC C_is_between (hr.mono (by decide)) rfl pass0 (pa_cons (pv 1) (pa_cons pe_int (pa_cons (pe_gint rfl T.c_MOST_KINDS) pa_nil)))))) (pss_one (ps_raise rfl (takes_of rfl rfl rfl rfl) (pmk_E T.x_InvalidNumber (hr.mono (by decide)) rfl (pa_cons (pv 1) pa_nil)))) pss_nil)
      (pss_cons (ps_if (pt_not (pt_val (pe_callC C_is_rules (hr.mono (by decide)) rfl pass0 (pa_cons (pv 2) (pa_cons (pv 1) pa_nil))))) (pss_one (ps_raise rfl (takes_of rfl rfl rfl rfl) (pmk_E T.x_InvalidRules (hr.mono (by decide)) rfl (pa_cons (pv 2) pa_nil)))) pss_nil)
      (pss_cons (ps_set (i := 3) sc_Pairs_init.nd rfl (Or.inl rfl) (pe_callC C_endless_kind (hr.mono (by decide)) rfl pass0 (pa_cons (pe_callC C_steps_of (hr.mono (by decide)) rfl pass0 (pa_cons (pv 1) (pa_cons (pv 2) pa_nil))) pa_nil)))
      (pss_cons (ps_if (pt_cmpR op_notN (pv 3) pe_non (nomark _)) (pss_one (ps_raise rfl (takes_of rfl rfl rfl rfl) (pmk_E T.x_Endless (hr.mono (by decide)) rfl (pa_cons (pv 3) pa_nil)))) pss_nil)
      (pss_cons (ps_fld (pv 0) (pv 1) rfl)
      (pss_one (ps_fld (pv 0) (pe_callTy (call_tuple_ofK K) (by rfl) T.m_tuple bt_tuple (pa_cons (pe_lc (own := [("rule", 4)]) rfl sc_Pairs_init.nd (pi_seqK K (pv 2)) (blkOk_by (own := [("rule", 4)]) (N := N_Pairs_init) (sc := defScope s_Pairs_init) (by decide +kernel)) (fun _ _ _ _ _ => pg_name (i := 4) sc_Pairs_init.nd rfl (Or.inl rfl)) (fun _ _ _ _ _ => pts_nil) (fun _ _ _ _ _ => (pe_callTy (call_tuple_ofK K) (by rfl) T.m_tuple bt_tuple (pa_cons (pv 4) pa_nil)))) pa_nil)) rfl))))))), ?_⟩
    have a : At (Fm.ob x (.ins CP dx [])) B H B H := At.start ok
    refine qv_when (b := !inB dk 1 40) a (et_not (et_val (ed_F (eds_cons (ed_var rfl hk) (eds_cons ed_int (eds_cons ed_int eds_nil))) ⟨_, _, _, rfl⟩ rfl))) (fun hb B1 H1 e1 a1 => ?_) (fun hb B1 H1 e1 a1 => ?_)
    · exact mk_raise (P := DD K dk) a1.j (ed_var rfl (hk.up e1)) fun v B2 H2 dd H' s2 k2 hv hd e2 hx => qn (due_num' (by simpa using hb)) v dd B2 H2 H' (a1.st.trans s2) hv e2 hx
    obtain ⟨n, rfl, n1, n2⟩ := inB_is (k := dk) (by simpa using hb)
    obtain rfl := dd_int hk
    refine qv_when (b := !rulesD dr n) a1 (et_not (et_val (ed_F (eds_cons (ed_var rfl (hrr.up e1)) (eds_cons (ed_var rfl (.int n)) eds_nil)) ⟨_, _, rfl⟩ rfl))) (fun hb2 B2 H2 e2 a2 => ?_) (fun hb2 B2 H2 e2 a2 => ?_)
    · exact mk_raise (P := DD K dr) a2.j (ed_var rfl (hrr.up (e1.trans e2))) fun v B3 H3 dd H' s3 k3 hv hd e3 hx => qr (due_rules ⟨n1, n2⟩ (by simpa using hb2)) v dd B3 H3 H' (a2.st.trans s3) hv e3 hx
    have hok : rulesD dr n = true := by simpa using hb2
    obtain ⟨rs, rfl⟩ := rules_is hok
    obtain ⟨l1, l2, hall⟩ := rules_all hok
    have en : ((n.toNat : Nat) : Int) = n := by omega
    have e12 := e1.trans e2
    have hE : ∀ a b, (a, b) ∈ edges rs → 0 ≤ b ∧ b < ((n.toNat : Nat) : Int) := fun a b h => by
      have := edges_in (n := n) hall a b h
      rw [en]
      exact ⟨this.2.2.1, this.2.2.2⟩
    refine qv_asg (P := DD K (optD (backK (edges rs) n.toNat))) a2 (ev_ek (ed_F (z := adjD (edges rs) n.toNat) (eds_cons (ed_var rfl (.int n)) (eds_cons (ed_var rfl (hrr.up e12)) eds_nil)) ⟨rs, n.toNat, by rw [en], by omega, by omega, by rw [en]; exact hall⟩ rfl) hE (by omega) (by have := edges_len rs; omega)) fun vb B3 H3 e3 a3 h3 => ?_
    have due := due_back ⟨n1, n2⟩ hok
    refine qv_when (b := !isNon (optD (backK (edges rs) n.toNat))) a3 (et_cmp (ed_op (ed_var rfl h3) ed_non rd_notN)) (fun hb4 B4 H4 e4 a4 => ?_) (fun hb4 B4 H4 e4 a4 => ?_)
    · cases hh : backK (edges rs) n.toNat with
      | none => rw [hh] at hb4; cases hb4
      | some b =>
        rw [hh] at due h3
        exact mk_raise (P := DD K (.int b)) a4.j (ed_var rfl (h3.up e4)) fun v B5 H5 dd H' s5 k5 hv hd e5 hx => qe b due v dd B5 H5 H' (a4.st.trans s5) hv e5 hx
    · have hh : backK (edges rs) n.toNat = none := by
        cases hh : backK (edges rs) n.toNat with
        | none => rfl
        | some b => rw [hh] at hb4; cases hb4
      rw [hh] at due
      have hr4 : Dd K B4 vr (.tuple rs) := hrr.up ((e12.trans e3).trans e4)
      refine ⟨.int n, rfl, .ref x, rfl, x, CP, dx, [], rfl, a4.j.j, T.cl, T.nk, by decide, ?_⟩
      obtain ⟨k5, s5⟩ := ob_set (o' := .ins CP dx (putF "kinds" (.int n) [])) a4.j
      have a5 : At (Fm.ob x (.ins CP dx (putF "kinds" (.int n) []))) B4 (upd H4 x (.ins CP dx (putF "kinds" (.int n) []))) B4 (upd H4 x (.ins CP dx (putF "kinds" (.int n) []))) := At.start k5
      have evt : ED (Fm.ob x (.ins CP dx (putF "kinds" (.int n) []))) K _ _ B4 (.tuple rs) := ev_cb (eds_cons (ed_is (ed_lcD (j := 4) (vsN := [4]) (fun _ => true) (fun r => r) (ev_seqT (ed_var (i := 2) (σ := [some (.ref x), some (.int n), some vr, some vb, none]) rfl hr4)) (by omega) (fun _ => rfl) (fun d v B6 _ _ _ => et_yes) (fun d v B6 hm _ _ hdv => ev_cb (eds_cons (ed_var (i := 4) rfl hdv) eds_nil) (rc_tupA (rule_tup (hall d hm))))) (by rw [List.filter_eq_self.mpr (fun _ _ => rfl), List.map_id'])) eds_nil) rc_tupL
      dsimp only
      unfold sFld
      refine evt B4 (Ex.refl B4) _ k5 _ fun v6 B6 H6 s6 k6 g6 => ?_
      refine ⟨.ref x, rfl, x, CP, dx, _, rfl, k6.j, T.cl, T.nr, by show 1 < 1000; decide, ?_⟩
      obtain ⟨k7, s7⟩ := ob_set (o' := .ins CP dx (putF "rules" v6 (putF "kinds" (.int n) []))) k6
      exact qk due (.int n) v6 B6 _ (((a4.st.trans s5).trans s6).trans s7) (k6.av x rfl) (by rw [upd_same]; rfl) (.int n) g6
end
end
end K33

namespace K33
open PySem PySem.Spec PyProof.Rows L2 Evl Ex Dx
open PySem.PyData (strOk)

section
variable {P : Program} {w : World} {K : PySem.W.Frag} {mg : Str → Option Value} {base : Heap} {f : Addr} {fd : FuncData}

variable {c0 c1 c2 CP : Addr}
def InsP (K : PySem.W.Frag) (CP : Addr) (dk dr : PyData) : PV := fun v B => ∃ (x dx : Addr) (vk vr : V), v = .ref x ∧ B x = some (.ins CP dx [("kinds", vk), ("rules", vr)]) ∧ Dd K B vk dk ∧ Dd K B vr dr
theorem upc_ins {dk dr : PyData} : Upc (InsP K CP dk dr) := fun v B B' e ⟨x, dx, vk, vr, h1, h2, h3, h4⟩ => ⟨x, dx, vk, vr, h1, e _ _ h2, h3.up e, h4.up e⟩
section
variable {F : Fm} {B : Hp} {σ : L2.St} {te : TE} {tas : TA} {dk dr dk2 dr2 : PyData}
theorem ev_fk (T : TP P w K mg base c0 c1 c2 CP) (h : EV F te σ B (InsP K CP dk dr)) : ED F K (tFld K te "kinds") σ B dk := fun B1 e0 H k Q q => h B1 e0 H k _ fun v B2 H2 s2 k2 ⟨x, dx, vk, vr, e, h2, h3, h4⟩ => ⟨x, CP, dx, _, vk, e, k2.e _ _ h2, T.cl, T.nk, rfl, q vk B2 H2 s2 k2 h3⟩
theorem ev_fr (T : TP P w K mg base c0 c1 c2 CP) (h : EV F te σ B (InsP K CP dk dr)) : ED F K (tFld K te "rules") σ B dr := fun B1 e0 H k Q q => h B1 e0 H k _ fun v B2 H2 s2 k2 ⟨x, dx, vk, vr, e, h2, h3, h4⟩ => ⟨x, CP, dx, _, vr, e, k2.e _ _ h2, T.cl, T.nr, rfl, q vr B2 H2 s2 k2 h4⟩
theorem ev_isP (T : TP P w K mg base c0 c1 c2 CP) (h : EV F te σ B (InsP K CP dk dr)) : ED F K (tCB (rIsi K) (tCons te (tCons (tC (.ref CP)) tNil))) σ B (.bool true) := fun B1 e0 H k Q q => h B1 e0 H k _ fun v B2 H2 s2 k2 ⟨x, dx, vk, vr, e, h2, h3, h4⟩ =>
  ⟨v, .ref CP, .ref CP, .ref CP, true, rfl, .own CP, by rw [e]; exact .base (.ins (k2.e _ _ h2) T.cl T.ca T.sg T.tk T.mo), T.kt1, q _ B2 H2 s2 k2 (.bl true)⟩
theorem ev_isT (T : TP P w K mg base c0 c1 c2 CP) {ds : List PyData} (h : ED F K te σ B (.tuple ds)) : ED F K (tCB (rIsi K) (tCons te (tCons (tC (.ref CP)) tNil))) σ B (.bool false) := fun B1 e0 H k Q q => h B1 e0 H k _ fun v B2 H2 s2 k2 g =>
  ⟨v, .ref CP, .type "tuple", .ref CP, false, rfl, .own CP, tyX (Dd.up g k2.e), T.kt2, q _ B2 H2 s2 k2 (.bl false)⟩
theorem made_step0 {x dx : Addr} {B' H H' : Hp} {o : HO} (hx : H x = none) (hdx : H dx = none) (s : Step (fun a => a = x) B (upd (upd H dx (.own x)) x o) B' H') : Step (fun _ => False) B H B' H' := by
  have up : ∀ a u, H a = some u → upd (upd H dx (.own x)) x o a = some u := fun a u h => by
    rw [upd_ne (ne_of_none h hx), upd_ne (ne_of_none h hdx)]
    exact h
  have lv : ∀ a, H a ≠ none → upd (upd H dx (.own x)) x o a ≠ none := fun a n => by
    cases hh : H a with
    | none => exact absurd hh n
    | some u =>
      rw [up a u hh]
      exact fun z => nomatch z
  have lv2 : ∀ a, Liv H a → Liv (upd (upd H dx (.own x)) x o) a := fun a ⟨u, h, n⟩ => ⟨u, up a u h, n⟩
  exact ⟨s.bb, s.bh, fun a u _ h => s.keep a u (fun z => ne_of_none h hx z) (up a u h), fun a h n => s.sep a h (lv2 a n), fun a n => s.live a (lv a n), fun a n => s.liv a (lv2 a n)⟩
theorem made_step {x dx : Addr} {B' H H' : Hp} {o o' : HO} (e : Ex B H) (hx : H x = none) (hdx : H dx = none) (s : Step (fun a => a = x) B (upd (upd H dx (.own x)) x o) B' H') (bx : B' x = none) (hx' : H' x = some o') : Step (fun _ => False) B H (upd B' x o') H' := by
  have s0 := made_step0 hx hdx s
  exact ⟨fun a u h => by rw [upd_ne (ne_of_none (e _ _ h) hx)]; exact s0.bb _ _ h, fun a u h => by
    by_cases ea : a = x
    · subst ea
      rw [upd_same] at h
      rw [hx']
      exact h
    · rw [upd_ne ea] at h
      exact s0.bh _ _ h, s0.keep, fun a h n => by
    have ea : a ≠ x := fun z => n.ne (z ▸ hx)
    rw [upd_ne ea]
    exact s0.sep a h n, s0.live, s0.liv⟩
theorem made_ok {x dx : Addr} {H : Hp} {o : HO} (e : Ex B H) (hx : H x = none) (hdx : H dx = none) (ho : nT o := by trivial) : Ok (Fm.ob x o ho) B (upd (upd H dx (.own x)) x o) := ⟨fun a u h => by
  have h' := e _ _ h
  rw [upd_ne (ne_of_none h' hx), upd_ne (ne_of_none h' hdx)]
  exact h', upd_same, fun a m => by rw [show a = x from m]; exact fresh_back e hx⟩
theorem ev_make {E : L2.St → XK} (ha : EDs F K tas σ B [dk, dr]) (hd : dueD dk dr = .tuple [.str "kept", dk, dr]) : EV F (tMakeS CP (spPairs K CP c0 c1 c2) E tas) σ B (InsP K CP dk dr) := fun B1 e0 H k Q q => ha B1 e0 H k _ fun vs B2 H2 s2 k2 g => by
  intro x dx hx hdx hne
  obtain ⟨vk, vr, rfl, gk, gr⟩ := arg2 g
  refine ⟨x, dx, B2, vk, vr, dk, dr, rfl, made_ok k2.e hx hdx, gk, gr, fun _ vk' vr' B' H' s bx hx' h1 h2 => ⟨rfl, ?_⟩, fun h => (by rw [hd] at h; cases h), fun h => (by rw [hd] at h; cases h), fun b h => (by rw [hd] at h; cases h)⟩
  have s3 := made_step k2.e hx hdx s bx hx'
  exact q _ _ _ (s2.trans s3.pure) (k2.pure s3) ⟨x, dx, vk', vr', rfl, upd_same, h1.up (Ex.new bx), h2.up (Ex.new bx)⟩
end
def spEq (K : PySem.W.Frag) (CP : Addr) : Sp := fun vs H Q _ => ∃ (B : Hp) (v u : V) (dk dr : PyData) (b : Bool), vs = [v, u] ∧ Ex B H ∧ InsP K CP dk dr v B ∧ SeqAt.shaped dk = true ∧ SeqAt.shaped dr = true ∧
  ((∃ dk2 dr2, InsP K CP dk2 dr2 u B ∧ SeqAt.shaped dk2 = true ∧ SeqAt.shaped dr2 = true ∧ b = (PyData.eqv dk dk2 && PyData.eqv dr dr2)) ∨ ((∃ ds, Dd K B u (.tuple ds)) ∧ b = false)) ∧ ∀ B' H', Step (fun _ => False) B H B' H' → Q (.bl b) H'

abbrev s_Pairs_eq : Stmt := inClass (topS 21) 1
abbrev N_Pairs_eq : List Str := ["self", "other"]
theorem sc_Pairs_eq : FnScope N_Pairs_eq ["self", "other"] (defScope s_Pairs_eq) := ⟨rfl, rfl, rfl, by decide +kernel, rfl, by decide +kernel, by decide +kernel⟩
theorem ok_eq (F : Fun K "__eq__" "Pairs.__eq__" s_Pairs_eq f fd) (T : TP P w K mg base c0 c1 c2 CP) : FnOk P w K mg base CX0 1 f fd ["self", "other"] (spEq K CP) := by
  refine F.ok sc_Pairs_eq (fun vs H Q E h => ?_) (fun cdv A outer s H vs Q E hr h => ?_)
  · obtain ⟨B, v, u, dk, dr, b, rfl, _⟩ := h
    rfl
  · obtain ⟨B, v, u, dk, dr, b, rfl, e, hi, s1, s2, hu, q⟩ := h
    have hu64 : (A.deeper (envOfC "Pairs.__eq__" (defScope s_Pairs_eq) s.heap.objs.size f cdv)).units + 64 < cLine := hr.units
    refine ⟨_, (pss_one (ps_ret (pe_and (pe_callB (call_isiK1 K) (by rfl) T.m_isinstance bt_isinstance (pa_cons (pv 1) (pa_cons (pe_glob (v := .ref _) rfl T.g_Pairs rfl) pa_nil))) (pe_and (pe_cmpR (op_eqDK K hu64) (pe_fldK K (pv 0)) (pe_fldK K (pv 1)) (nomark _)) (pe_one (pe_cmpR (op_eqDK K hu64) (pe_fldK K (pv 0)) (pe_fldK K (pv 1)) (nomark _))))))), ?_⟩
    have a : At Fm.pure B H B H := At.start (Ok.any e)

    rcases hu with ⟨dk2, dr2, hu, s3, s4, rfl⟩ | ⟨⟨ds, hu⟩, rfl⟩
    · refine sv_ret (P := DD K (.bool (PyData.eqv dk dk2 && PyData.eqv dr dr2))) a (ed_is (ed_andV (ev_isP T (ev_var rfl upc_ins hu)) fun _ => ed_andV (ed_op (ev_fk T (ev_var rfl upc_ins hi)) (ev_fk T (ev_var rfl upc_ins hu)) (rd_eqD s1 s3)) fun _ => ed_op (ev_fr T (ev_var rfl upc_ins hi)) (ev_fr T (ev_var rfl upc_ins hu)) (rd_eqD s2 s4)) (by rw [Bool.true_and])) fun v1 B1 H1 e1 a1 h1 => ?_
      obtain rfl := dd_bl h1
      exact q B1 H1 a1.st
    · refine sv_ret (P := DD K (.bool false)) a (ed_andV (c := true) (ev_isT T (ed_var rfl hu)) fun h => nomatch h) fun v1 B1 H1 e1 a1 h1 => ?_
      obtain rfl := dd_bl h1
      exact q B1 H1 a1.st
section
variable {F : Fm} {B : Hp} {dk dr dk2 dr2 : PyData} {E : XK}
theorem rv_ownEq (s1 : SeqAt.shaped dk = true) (s2 : SeqAt.shaped dr = true) (s3 : SeqAt.shaped dk2 = true) (s4 : SeqAt.shaped dr2 = true) : RV2 F (rOwnEq K CP (spEq K CP) E) B (InsP K CP dk dr) (InsP K CP dk2 dr2) (DD K (.bool (PyData.eqv dk dk2 && PyData.eqv dr dr2))) := fun B1 e0 H u v j hu hv Q q => by
  obtain ⟨x, dx, vk, vr, rfl, h1, h2, h3⟩ := hu
  obtain ⟨y, dy, wk, wr, rfl, g1, g2, g3⟩ := hv
  exact ⟨x, dx, _, rfl, j.e _ _ h1, .inl ⟨y, dy, _, rfl, j.e _ _ g1⟩, B1, .ref x, .ref y, dk, dr, _, rfl, j.e, ⟨x, dx, vk, vr, rfl, h1, h2, h3⟩, s1, s2, .inl ⟨dk2, dr2, ⟨y, dy, wk, wr, rfl, g1, g2, g3⟩, s3, s4, rfl⟩, fun B' H' s => ⟨⟨_, rfl⟩, q _ B' H' s.pure (j.pure s) (.bl _)⟩⟩
theorem rv_ownEqT {ds : List PyData} (s1 : SeqAt.shaped dk = true) (s2 : SeqAt.shaped dr = true) : RV2 F (rOwnEq K CP (spEq K CP) E) B (InsP K CP dk dr) (DD K (.tuple ds)) (DD K (.bool false)) := fun B1 e0 H u v j hu hv Q q => by
  obtain ⟨x, dx, vk, vr, rfl, h1, h2, h3⟩ := hu
  obtain ⟨y, ys, rfl, g1, g2, g3⟩ := dd_tup hv
  exact ⟨x, dx, _, rfl, j.e _ _ h1, .inr ⟨y, ys, rfl, ex_t j.e g1⟩, B1, .ref x, .ref y, dk, dr, _, rfl, j.e, ⟨x, dx, vk, vr, rfl, h1, h2, h3⟩, s1, s2, .inr ⟨⟨ds, hv⟩, rfl⟩, fun B' H' s => ⟨⟨_, rfl⟩, q _ B' H' s.pure (j.pure s) (.bl _)⟩⟩
end
def spMade (K : PySem.W.Frag) (CP : Addr) : Sp := fun vs H Q _ => ∃ (B : Hp) (v : V) (dk dr : PyData), vs = [v] ∧ Ex B H ∧ Dd K B v (.tuple [dk, dr]) ∧ dueD dk dr = .tuple [.str "kept", dk, dr] ∧ ∀ v' B' H', Step (fun _ => False) B H B' H' → InsP K CP dk dr v' B' → Q v' H'
variable {fI : Addr} {fdI : FuncData}

abbrev s_law_made : Stmt := topS 56
abbrev N_law_made : List Str := ["grammar"]
theorem sc_law_made : FnScope N_law_made ["grammar"] (defScope s_law_made) := ⟨rfl, rfl, rfl, by decide +kernel, rfl, by decide +kernel, by decide +kernel⟩
theorem ok_law_made (F : Fun K "_law_made" "_law_made" s_law_made f fd) (T : TP P w K mg base c0 c1 c2 CP) (M_Pairs : Mk K CP fI) (G_Pairs : FnOk P w K mg base (L2.CX P w) 5 fI fdI ["self", "kinds", "rules"] (spPairs K CP c0 c1 c2)) (B_Pairs : L2.Binds K fdI ["self", "kinds", "rules"] []) : FnOk P w K mg base CX0 7 f fd ["grammar"] (spMade K CP) := by
  refine F.ok sc_law_made (fun vs H Q E h => ?_) (fun cdv A outer s H vs Q E hr h => ?_)
  · obtain ⟨B, v, dk, dr, rfl, _⟩ := h
    rfl
  · obtain ⟨B, v, dk, dr, rfl, e, hv, hd, q⟩ := h
    refine ⟨_, (pss_one (ps_ret (pe_makeS M_Pairs G_Pairs (hr.mono (by decide)) rfl T.g_Pairs B_Pairs (fun σ => passAt takes0 σ) (pa_cons (pe_ix (ix_seqK K) (pv 0) pe_int (fun _ _ => rfl)) (pa_cons (pe_ix (ix_seqK K) (pv 0) pe_int (fun _ _ => rfl)) pa_nil))))), ?_⟩
    have a : At Fm.pure B H B H := At.start (Ok.any e)

    exact sv_ret (P := InsP K CP dk dr) a (ev_make (eds_cons (ed_op (ed_var rfl hv) ed_int (rd_ixT at2_0)) (eds_cons (ed_op (ed_var rfl hv) ed_int (rd_ixT at2_1)) eds_nil)) hd) fun v1 B1 H1 e1 a1 h1 => q v1 B1 H1 a1.st h1
end
end K33

namespace K33
open PySem PySem.Spec PyProof.Rows L2 Evl Ex Dx
open PySem.PyData (strOk)

section
variable {P : Program} {w : World} {K : PySem.W.Frag} {mg : Str → Option Value} {base : Heap} {f : Addr} {fd : FuncData}

abbrev L12 : List Str := ["left", "right", "same", "first", "last", "wrap", "ahead", "behind", "a", "ab", "b", "aab", "z"]
def atomD (d : PyData) : Bool := match d with
  | .int i => decide (0 ≤ i) && decide (i ≤ 40)
  | .str s => L12.contains s
  | _ => false
def smD : Nat → PyData → Bool
  | 0 => atomD
  | n + 1 => fun d => atomD d || (match d with | .tuple ds => decide (ds.length ≤ 3000) && ds.all (smD n) | _ => false)
theorem strF : ∀ s ∈ L12, strOk s = true ∧ strOk (s ++ ("b" : Str)) = true ∧ strOk (cutS s (some 1) none) = true ∧ strOk (("a" : Str) ++ s) = true ∧ s.length ≤ 100 ∧ (cutS s (some 1) none).length ≤ 100 := by decide +kernel
theorem intF : ∀ n : Fin 41, strOk (toString ((n : Nat) : Int) : Str) = true ∧ (toString ((n : Nat) : Int) : Str).length ≤ 100 := by decide +kernel
theorem atom_is {d : PyData} (h : atomD d = true) : (∃ i : Int, d = .int i ∧ 0 ≤ i ∧ i ≤ 40) ∨ ∃ s, d = .str s ∧ s ∈ L12 := by
  cases d with
  | int i =>
    have h' : (decide (0 ≤ i) && decide (i ≤ 40)) = true := h
    rw [Bool.and_eq_true, decide_eq_true_eq, decide_eq_true_eq] at h'
    exact .inl ⟨i, rfl, h'.1, h'.2⟩
  | str s => exact .inr ⟨s, rfl, List.contains_iff_mem.mp h⟩
  | _ => cases h
theorem atom_sm {d : PyData} (h : atomD d = true) (n : Nat) : Sm (n + 1) d := by
  rcases atom_is h with ⟨i, rfl, _⟩ | ⟨s, rfl, hs⟩
  · exact sm_int
  · exact sm_str (strF s hs).1
theorem smD_is {n : Nat} {d : PyData} (h : smD (n + 1) d = true) : atomD d = true ∨ ∃ ds, d = .tuple ds ∧ ds.length ≤ 3000 ∧ ∀ x ∈ ds, smD n x = true := by
  cases d with
  | tuple ds =>
    have h2 : (decide (ds.length ≤ 3000) && ds.all (smD n)) = true := h
    rw [Bool.and_eq_true, decide_eq_true_eq, List.all_eq_true] at h2
    exact .inr ⟨ds, rfl, h2.1, h2.2⟩
  | int i => exact .inl (by simpa [smD] using h)
  | str s => exact .inl (by simpa [smD] using h)
  | _ => exact .inl (by simpa [smD] using h)
theorem smD_sm : ∀ (n : Nat) (d : PyData), smD n d = true → Sm (n + 1) d
  | 0, d, h => atom_sm h 0
  | n + 1, d, h => by
    rcases smD_is h with h1 | ⟨ds, rfl, _, h2⟩
    · exact atom_sm h1 _
    · exact sm_tup fun x hx => smD_sm n x (h2 x hx)
theorem mem_cutL {α : Type} {x : α} {ds : List α} {lo hi : Option Int} (h : x ∈ cutL ds lo hi) : x ∈ ds := List.mem_of_mem_drop (List.mem_of_mem_take h)
theorem eqvT_nil : ∀ ds : List PyData, PyData.eqv (.tuple ds) (.tuple []) = ds.isEmpty
  | [] => by simp [PyData.eqv, PyData.eqvAll]
  | d :: ds => by simp [PyData.eqv, PyData.eqvAll]
/-- a test that may go either way; if it is true, c is -/
def EB (F : Fm) (tt : TT) (σ : L2.St) (B : Hp) (c : Bool) : Prop := ∀ B1, Ex B B1 → ∀ H, Ok F B1 H → ∀ Q : Bool → Hp → Prop, (∀ b B' H', Step F.M B1 H B' H' → Ok F B' H' → (b = true → c = true) → Q b H') → tt σ H Q
section
variable {F : Fm} {σ : L2.St} {B0 H0 B H : Hp} {t u : TT} {te : TE} {b c : Bool} {D : Ends} {tu tz tw : TS} {i : Int}
theorem eb_and (h1 : ETt F t σ B b) (h2 : b = true → EB F u σ B true) : EB F (tAnd t u) σ B b := fun B1 e0 H j Q q => h1 B1 e0 H j _ fun B2 H2 s2 j2 => by
  cases b with
  | true =>
    show u σ H2 Q
    exact h2 rfl B2 (e0.trans s2.bb) H2 j2 Q fun c B3 H3 s3 j3 _ => q c B3 H3 (s2.trans s3) j3 fun _ => rfl
  | false =>
    show Q false H2
    exact q false B2 H2 s2 j2 fun h => h
theorem eb_cmp {P : PV} (h : EV F te σ B P) (hp : ∀ v B1, P v B1 → ∃ b, v = .bl b) : EB F (tTest te) σ B true := fun B1 e0 H j Q q => h B1 e0 H j _ fun v B2 H2 s2 j2 g => by
  obtain ⟨b, rfl⟩ := hp v B2 g
  exact ⟨b, rfl, q b B2 H2 s2 j2 fun _ => rfl⟩
theorem eb_and' (h1 : ETt F t σ B true) (h2 : EB F u σ B true) : EB F (tAnd t u) σ B true := eb_and h1 fun _ => h2
theorem sv_ifB (a : At F B0 H0 B H) (h : EB F t σ B c) (h1 : c = true → ∀ B1 H1, Ex B B1 → At F B0 H0 B1 H1 → tu D σ H1) (h2 : ∀ B1 H1, Ex B B1 → At F B0 H0 B1 H1 → tw D σ H1) : tIfS t tu tw D σ H := h B (Ex.refl B) H a.j _ fun b B1 H1 s j hb => by
  cases b with
  | true =>
    show tu D σ H1
    exact h1 (hb rfl) B1 H1 s.bb (a.next s j)
  | false =>
    show tw D σ H1
    exact h2 B1 H1 s.bb (a.next s j)
theorem qv_whenB (a : At F B0 H0 B H) (h : EB F t σ B c) (h1 : c = true → ∀ B1 H1, Ex B B1 → At F B0 H0 B1 H1 → tu { D with nx := tz D } σ H1) (h2 : ∀ B1 H1, Ex B B1 → At F B0 H0 B1 H1 → tz D σ H1) : tSeq (tIfS t tu tNext) tz D σ H := sv_ifB (D := { D with nx := tz D }) a h h1 h2
theorem ed_neg {ta : TE} (h : ED F K ta σ B (.int i)) : ED F K (tUn (rU fun i => .int (-i)) ta) σ B (.int (-i)) := fun B1 e0 H j Q q => h B1 e0 H j _ fun v B2 H2 s2 j2 g => ⟨i, dd_int g, q _ B2 H2 s2 j2 (.int _)⟩
end
theorem lay_sh {n : Nat} {d : PyData} (h : smD (n + 1) d = true) (hn : n + 2 ≤ 64 := by omega) : SeqAt.shaped d = true := (smD_sm _ _ h).sh hn
def spSpoil (K : PySem.W.Frag) (n : Nat) : Sp := fun vs H Q _ => ∃ (p : Addr) (v : V) (B : Hp) (d : PyData), vs = [.ref p, v, .int (n : Nat)] ∧ Ok (Fm.box p) B H ∧ Dd K B v d ∧ smD n d = true ∧
  ∀ v' B' H' e, Step (fun a => a = p) B H B' H' → Ok (Fm.box p) B' H' → Dd K B' v' e → Sm (n + 2) e → Q v' H'

abbrev s_law_spoilt : Stmt := topS 51
abbrev N_law_spoilt : List Str := ["box", "value", "deep", "at", "how"]
theorem sc_law_spoilt : FnScope N_law_spoilt ["box", "value", "deep"] (defScope s_law_spoilt) := ⟨rfl, rfl, rfl, by decide +kernel, rfl, by decide +kernel, by decide +kernel⟩
theorem ok_spoilt0 (F : Fun K "_law_spoilt" "_law_spoilt" s_law_spoilt f fd) (T : TC K mg) (C_law_take : Callee P w K mg base "_law_take" 1 ["box", "many"] (spTake K)) (C_law_pick : Callee P w K mg base "_law_pick" 2 ["box", "some"] (spPick K)) (C_law_whole : Callee P w K mg base "_law_whole" 1 ["value"] (spInt K)) : FnOk P w K mg base CX0 3 f fd ["box", "value", "deep"] (spSpoil K 0) := by
  refine F.ok sc_law_spoilt (fun vs H Q E h => ?_) (fun cdv A outer s H vs Q E hr h => ?_)
  · obtain ⟨p, v, B, d, rfl, _⟩ := h
    rfl
  · obtain ⟨p, v, B, d, rfl, ok, hv, hat, q⟩ := h
    have hu64 : (A.deeper (envOfC "_law_spoilt" (defScope s_law_spoilt) s.heap.objs.size f cdv)).units + 64 < cLine := hr.units
    refine ⟨_, (pss_cons (ps_if (pt_val (pe_callB (call_isiK1 K) (by rfl) T.m_isinstance bt_isinstance (pa_cons (pv 1) (pa_cons (pe_bltn (v := .ty "tuple") (by rfl) T.m_tuple bt_tuple rfl) pa_nil)))) pss_never pss_nil)
      (pss_cons (ps_if (pt_val (pe_callB (call_isiK1 K) (by rfl) T.m_isinstance bt_isinstance (pa_cons (pv 1) (pa_cons (pe_bltn (v := .ty "str") (by rfl) T.m_str bt_str rfl) pa_nil)))) (pss_one (ps_ret (pe_callC C_law_pick (hr.mono (by decide)) rfl pass0 (pa_cons (pv 0) (pa_cons (pe_lst (pa_cons (pe_op (op_addK K) (pv 1) pe_str) (pa_cons pe_str (pa_cons (pe_slice (sl_anyK K) (pv 1) (po_some pe_int) po_none) (pa_cons (pe_op (op_addK K) pe_str (pv 1)) (pa_cons pe_int pa_nil)))))) pa_nil))))) pss_nil)
      (pss_cons (ps_if (pt_val (pe_callC C_law_whole (hr.mono (by decide)) rfl pass0 (pa_cons (pv 1) pa_nil))) (pss_one (ps_ret (pe_callC C_law_pick (hr.mono (by decide)) rfl pass0 (pa_cons (pv 0) (pa_cons (pe_lst (pa_cons (pe_op (op_addK K) (pv 1) pe_int) (pa_cons (pe_op op_sub (pv 1) pe_int) (pa_cons (pe_cmpR op_gt (pv 1) pe_int (nomark _)) (pa_cons (pe_op op_sub (pe_un un_neg pe_int) (pv 1)) (pa_cons (pe_tup (pa_cons (pv 1) pa_nil)) (pa_cons pe_non (pa_cons (pe_callTy call_str_int (by rfl) T.m_str bt_str (pa_cons (pv 1) pa_nil)) (pa_cons (pe_op (op_addK K) (pv 1) pe_int) pa_nil))))))))) pa_nil))))) pss_nil)
      (pss_one (ps_ret (pe_callC C_law_pick (hr.mono (by decide)) rfl pass0 (pa_cons (pv 0) (pa_cons (pe_lst (pa_cons pe_int (pa_cons (pe_tup pa_nil) (pa_cons pe_str pa_nil)))) pa_nil)))))))), ?_⟩
    have a : At (Fm.box p) B H B H := At.start ok
    have fin : ∀ e v B1 H1, At (Fm.box p) B H B1 H1 → Dd K B1 v e → Sm (0 + 2) e → Q v H1 := fun e v B1 H1 a1 h1 h2 => q v B1 H1 e a1.st a1.j h1 h2
    rcases atom_is hat with ⟨i, rfl, i0, i1⟩ | ⟨x, rfl, hx⟩
    · obtain rfl := dd_int hv
      refine qv_when (b := false) a (et_val (ed_isi (ed_var rfl (.int i)) (kit_tup _))) (fun h => nomatch h) (fun _ B1 H1 e1 a1 => ?_)
      refine qv_when (b := false) a1 (et_val (ed_isi (ed_var rfl (.int i)) (kit_str _))) (fun h => nomatch h) (fun _ B2 H2 e2 a2 => ?_)
      refine qv_when (b := true) a2 (et_val (ed_F (eds_cons (ed_var rfl (.int i)) eds_nil) ⟨_, rfl⟩ rfl)) (fun _ B3 H3 e3 a3 => ?_) (fun h => nomatch h)
      obtain ⟨f1, f2⟩ := intF ⟨i.toNat, by omega⟩
      have en : ((i.toNat : Nat) : Int) = i := by omega
      have f1' : strOk (toString i : Str) = true := by rw [← en]; exact f1
      have f2' : (toString i : Str).length ≤ 100 := by rw [← en]; exact f2
      refine sv_ret (P := fun v B => ∃ e, e ∈ ([.int (i + 1), .int (i - 1), .bool (decide (0 < i)), .int (-1 - i), .tuple [.int i], .none, .str (toString i), .int (i + 16)] : List PyData) ∧ Dd K B v e) a3 (ev_pick (d := .list [.int (i + 1), .int (i - 1), .bool (decide (0 < i)), .int (-1 - i), .tuple [.int i], .none, .str (toString i), .int (i + 16)]) rfl (ed_lst (eds_cons (ed_op (ed_var rfl (.int i)) ed_int rd_add) (eds_cons (ed_op (ed_var rfl (.int i)) ed_int rd_sub) (eds_cons (ed_op (ed_var rfl (.int i)) ed_int rd_gt) (eds_cons (ed_op (ed_neg ed_int) (ed_var rfl (.int i)) rd_sub) (eds_cons (ed_tup (eds_cons (ed_var rfl (.int i)) eds_nil)) (eds_cons ed_non (eds_cons (ev_cb (eds_cons (ed_var rfl (.int i)) eds_nil) (rc_str (Nat.lt_of_le_of_lt (Nat.log2_le_self _) (by omega)) (by omega))) (eds_cons (ed_op (ed_var rfl (.int i)) ed_int rd_add) eds_nil))))))))) (.inl rfl) (fun z => nomatch z) (by show 8 < 1073741824; decide)) fun v4 B4 H4 e4 a4 ⟨e, he, h4⟩ => fin e v4 B4 H4 a4 h4 ?_
      simp only [List.mem_cons, List.mem_nil_iff, or_false] at he
      rcases he with rfl | rfl | rfl | rfl | rfl | rfl | rfl | rfl
      · exact sm_int
      · exact sm_int
      · exact sm_bool
      · exact sm_int
      · exact (sm_tup (n := 1) fun d hd => by rw [List.mem_singleton.mp hd]; exact sm_int).le (by omega)
      · exact sm_none
      · exact sm_str f1'
      · exact sm_int
    · obtain ⟨g1, g2, g3, g4, g5, g6⟩ := strF x hx
      refine qv_when (b := false) a (et_val (ed_isi (ed_var rfl hv) (kit_tup _))) (fun h => nomatch h) (fun _ B1 H1 e1 a1 => ?_)
      refine qv_when (b := true) a1 (et_val (ed_isi (ed_var rfl (hv.up e1)) (kit_str _))) (fun _ B2 H2 e2 a2 => ?_) (fun h => nomatch h)
      have hv2 := hv.up (e1.trans e2)
      have lb : ("b" : Str).length = 1 := by decide +kernel
      have la : ("a" : Str).length = 1 := by decide +kernel
      refine sv_ret (P := fun v B => ∃ e, e ∈ ([.str (x ++ "b"), .str "", .str (cutS x (some 1) none), .str ("a" ++ x), .int 0] : List PyData) ∧ Dd K B v e) a2 (ev_pick (d := .list [.str (x ++ "b"), .str "", .str (cutS x (some 1) none), .str ("a" ++ x), .int 0]) rfl (ed_lst (eds_cons (ed_op (ed_var rfl hv2) ed_str (rd_addS (by omega))) (eds_cons ed_str (eds_cons (ed_slS (ed_var rfl hv2) (eo_some (K := K) ed_int) eo_none (by omega)) (eds_cons (ed_op ed_str (ed_var rfl hv2) (rd_addS (by omega))) (eds_cons ed_int eds_nil)))))) (.inl rfl) (fun z => nomatch z) (by show 5 < 1073741824; decide)) fun v4 B4 H4 e4 a4 ⟨e, he, h4⟩ => fin e v4 B4 H4 a4 h4 ?_
      simp only [List.mem_cons, List.mem_nil_iff, or_false] at he
      rcases he with rfl | rfl | rfl | rfl | rfl
      · exact sm_str g2
      · exact sm_str (by decide +kernel)
      · exact sm_str g3
      · exact sm_str g4
      · exact sm_int
theorem ok_spoiltS (n : Nat) (F : Fun K "_law_spoilt" "_law_spoilt" s_law_spoilt f fd) (T : TC K mg) (C_law_take : Callee P w K mg base "_law_take" 1 ["box", "many"] (spTake K)) (C_law_pick : Callee P w K mg base "_law_pick" 2 ["box", "some"] (spPick K)) (C_law_whole : Callee P w K mg base "_law_whole" 1 ["value"] (spInt K)) (C_law_spoilt : Callee P w K mg base "_law_spoilt" (n + 3) ["box", "value", "deep"] (spSpoil K n)) (hn : n ≤ 10) : FnOk P w K mg base CX0 (n + 4) f fd ["box", "value", "deep"] (spSpoil K (n + 1)) := by
  refine F.ok sc_law_spoilt (fun vs H Q E h => ?_) (fun cdv A outer s H vs Q E hr h => ?_)
  · obtain ⟨p, v, B, d, rfl, _⟩ := h
    rfl
  · obtain ⟨p, v, B, d, rfl, ok, hv, hsd, q⟩ := h
    have hu64 : (A.deeper (envOfC "_law_spoilt" (defScope s_law_spoilt) s.heap.objs.size f cdv)).units + 64 < cLine := hr.units
    refine ⟨_, (pss_cons (ps_if (pt_val (pe_callB (call_isiK1 K) (by rfl) T.m_isinstance bt_isinstance (pa_cons (pv 1) (pa_cons (pe_bltn (v := .ty "tuple") (by rfl) T.m_tuple bt_tuple rfl) pa_nil)))) (pss_cons (ps_set (i := 3) sc_law_spoilt.nd rfl (Or.inl rfl) (pe_callC C_law_take (hr.mono (by omega)) rfl pass0 (pa_cons (pv 0) (pa_cons (pe_op (op_addK K) (pe_callB (call_lenK K) (by rfl) T.m_len bt_len (pa_cons (pv 1) pa_nil)) pe_int) pa_nil))))
      (pss_cons (ps_if (PW.pt (pw_and (pt_cmpR (op_neDK K hu64) (pv 1) (pe_tup pa_nil) (nomark _)) (pw_and (pt_cmpR op_gt (pv 2) pe_int (nomark _)) (pw_and1 (pt_cmpR op_gt (pe_callC C_law_take (hr.mono (by omega)) rfl pass0 (pa_cons (pv 0) (pa_cons pe_int pa_nil))) pe_int (nomark _)))))) (pss_cons (ps_set (i := 3) sc_law_spoilt.nd rfl (Or.inl rfl) (pe_op op_mod (pe_callTy call_int1 (by rfl) T.m_int bt_int (pa_cons (pv 3) pa_nil)) (pe_callB (call_lenK K) (by rfl) T.m_len bt_len (pa_cons (pv 1) pa_nil))))
      (pss_one (ps_ret (pe_op (op_addK K) (pe_op (op_addK K) (pe_slice (sl_anyK K) (pv 1) po_none (po_some (pv 3))) (pe_tup (pa_cons (pe_callC C_law_spoilt (hr.mono (by omega)) rfl pass0 (pa_cons (pv 0) (pa_cons (pe_ix (ix_seqK K) (pv 1) (pv 3) (fun _ _ => rfl)) (pa_cons (pe_op op_sub (pv 2) pe_int) pa_nil)))) pa_nil))) (pe_slice (sl_anyK K) (pv 1) (po_some (pe_op (op_addK K) (pv 3) pe_int)) po_none))))) pss_nil)
      (pss_cons (ps_set (i := 4) sc_law_spoilt.nd rfl (Or.inl rfl) (pe_callC C_law_take (hr.mono (by omega)) rfl pass0 (pa_cons (pv 0) (pa_cons pe_int pa_nil))))
      (pss_cons (ps_if (pt_cmpR (op_eqDK K hu64) (pv 4) pe_int (nomark _)) (pss_one (ps_ret (pe_callTy call_list_of (by rfl) T.m_list bt_list (pa_cons (pv 1) pa_nil)))) pss_nil)
      (pss_cons (ps_if (pt_cmpR (op_eqDK K hu64) (pv 4) pe_int (nomark _)) (pss_one (ps_ret (pe_op (op_addK K) (pe_slice (sl_anyK K) (pv 1) po_none (po_some (pv 3))) (pe_slice (sl_anyK K) (pv 1) (po_some (pe_op (op_addK K) (pv 3) pe_int)) po_none)))) pss_nil)
      (pss_cons (ps_if (pt_cmpR (op_eqDK K hu64) (pv 4) pe_int (nomark _)) (pss_one (ps_ret (pe_op (op_addK K) (pe_op (op_addK K) (pe_slice (sl_anyK K) (pv 1) po_none (po_some (pv 3))) (pe_slice (sl_anyK K) (pv 1) (po_some (pv 3)) (po_some (pe_op (op_addK K) (pv 3) pe_int)))) (pe_slice (sl_anyK K) (pv 1) (po_some (pv 3)) po_none)))) pss_nil)
      (pss_cons (ps_if (pt_cmpR (op_eqDK K hu64) (pv 4) pe_int (nomark _)) (pss_one (ps_ret (pe_op (op_addK K) (pe_slice (sl_anyK K) (pv 1) (po_some (pv 3)) po_none) (pe_slice (sl_anyK K) (pv 1) po_none (po_some (pv 3)))))) pss_nil)
      (pss_cons (ps_if (pt_cmpR (op_eqDK K hu64) (pv 4) pe_int (nomark _)) (pss_one (ps_ret (pe_op (op_addK K) (pv 1) (pe_tup (pa_cons (pe_tup pa_nil) pa_nil))))) pss_nil)
      (pss_cons (ps_if (pt_cmpR (op_eqDK K hu64) (pv 4) pe_int (nomark _)) (pss_one (ps_ret (pe_op (op_addK K) (pe_op (op_addK K) (pe_slice (sl_anyK K) (pv 1) po_none (po_some (pv 3))) (pe_tup (pa_cons pe_int pa_nil))) (pe_slice (sl_anyK K) (pv 1) (po_some (pv 3)) po_none)))) pss_nil)
      (pss_cons (ps_if (pt_cmpR (op_eqDK K hu64) (pv 4) pe_int (nomark _)) (pss_one (ps_ret (pe_op (op_addK K) (pe_slice (sl_anyK K) (pv 1) po_none (po_some (pe_un un_neg pe_int))) (pe_slice (sl_anyK K) (pv 1) po_none (po_some pe_int))))) pss_nil)
      (pss_one (ps_ret pe_non)))))))))))) pss_nil)
      (pss_cons (ps_if (pt_val (pe_callB (call_isiK1 K) (by rfl) T.m_isinstance bt_isinstance (pa_cons (pv 1) (pa_cons (pe_bltn (v := .ty "str") (by rfl) T.m_str bt_str rfl) pa_nil)))) (pss_one (ps_ret (pe_callC C_law_pick (hr.mono (by omega)) rfl pass0 (pa_cons (pv 0) (pa_cons (pe_lst (pa_cons (pe_op (op_addK K) (pv 1) pe_str) (pa_cons pe_str (pa_cons (pe_slice (sl_anyK K) (pv 1) (po_some pe_int) po_none) (pa_cons (pe_op (op_addK K) pe_str (pv 1)) (pa_cons pe_int pa_nil)))))) pa_nil))))) pss_nil)
      (pss_cons (ps_if (pt_val (pe_callC C_law_whole (hr.mono (by omega)) rfl pass0 (pa_cons (pv 1) pa_nil))) (pss_one (ps_ret (pe_callC C_law_pick (hr.mono (by omega)) rfl pass0 (pa_cons (pv 0) (pa_cons (pe_lst (pa_cons (pe_op (op_addK K) (pv 1) pe_int) (pa_cons (pe_op op_sub (pv 1) pe_int) (pa_cons (pe_cmpR op_gt (pv 1) pe_int (nomark _)) (pa_cons (pe_op op_sub (pe_un un_neg pe_int) (pv 1)) (pa_cons (pe_tup (pa_cons (pv 1) pa_nil)) (pa_cons pe_non (pa_cons (pe_callTy call_str_int (by rfl) T.m_str bt_str (pa_cons (pv 1) pa_nil)) (pa_cons (pe_op (op_addK K) (pv 1) pe_int) pa_nil))))))))) pa_nil))))) pss_nil)
      (pss_one (ps_ret (pe_callC C_law_pick (hr.mono (by omega)) rfl pass0 (pa_cons (pv 0) (pa_cons (pe_lst (pa_cons pe_int (pa_cons (pe_tup pa_nil) (pa_cons pe_str pa_nil)))) pa_nil)))))))), ?_⟩
    have a : At (Fm.box p) B H B H := At.start ok
    have fin : ∀ e v B1 H1, At (Fm.box p) B H B1 H1 → Dd K B1 v e → Sm (n + 1 + 2) e → Q v H1 := fun e v B1 H1 a1 h1 h2 => q v B1 H1 e a1.st a1.j h1 h2
    rcases smD_is hsd with hat | ⟨ds, rfl, hl, hall⟩
    · rcases atom_is hat with ⟨i, rfl, i0, i1⟩ | ⟨x, rfl, hx⟩
      · obtain rfl := dd_int hv
        refine qv_when (b := false) a (et_val (ed_isi (ed_var rfl (.int i)) (kit_tup _))) (fun h => nomatch h) (fun _ B1 H1 e1 a1 => ?_)
        refine qv_when (b := false) a1 (et_val (ed_isi (ed_var rfl (.int i)) (kit_str _))) (fun h => nomatch h) (fun _ B2 H2 e2 a2 => ?_)
        refine qv_when (b := true) a2 (et_val (ed_F (eds_cons (ed_var rfl (.int i)) eds_nil) ⟨_, rfl⟩ rfl)) (fun _ B3 H3 e3 a3 => ?_) (fun h => nomatch h)
        obtain ⟨f1, f2⟩ := intF ⟨i.toNat, by omega⟩
        have en : ((i.toNat : Nat) : Int) = i := by omega
        have f1' : strOk (toString i : Str) = true := by rw [← en]; exact f1
        have f2' : (toString i : Str).length ≤ 100 := by rw [← en]; exact f2
        refine sv_ret (P := fun v B => ∃ e, e ∈ ([.int (i + 1), .int (i - 1), .bool (decide (0 < i)), .int (-1 - i), .tuple [.int i], .none, .str (toString i), .int (i + 16)] : List PyData) ∧ Dd K B v e) a3 (ev_pick (d := .list [.int (i + 1), .int (i - 1), .bool (decide (0 < i)), .int (-1 - i), .tuple [.int i], .none, .str (toString i), .int (i + 16)]) rfl (ed_lst (eds_cons (ed_op (ed_var rfl (.int i)) ed_int rd_add) (eds_cons (ed_op (ed_var rfl (.int i)) ed_int rd_sub) (eds_cons (ed_op (ed_var rfl (.int i)) ed_int rd_gt) (eds_cons (ed_op (ed_neg ed_int) (ed_var rfl (.int i)) rd_sub) (eds_cons (ed_tup (eds_cons (ed_var rfl (.int i)) eds_nil)) (eds_cons ed_non (eds_cons (ev_cb (eds_cons (ed_var rfl (.int i)) eds_nil) (rc_str (Nat.lt_of_le_of_lt (Nat.log2_le_self _) (by omega)) (by omega))) (eds_cons (ed_op (ed_var rfl (.int i)) ed_int rd_add) eds_nil))))))))) (.inl rfl) (fun z => nomatch z) (by show 8 < 1073741824; decide)) fun v4 B4 H4 e4 a4 ⟨e, he, h4⟩ => fin e v4 B4 H4 a4 h4 ?_
        simp only [List.mem_cons, List.mem_nil_iff, or_false] at he
        rcases he with rfl | rfl | rfl | rfl | rfl | rfl | rfl | rfl
        · exact sm_int
        · exact sm_int
        · exact sm_bool
        · exact sm_int
        · exact (sm_tup (n := 1) fun d hd => by rw [List.mem_singleton.mp hd]; exact sm_int).le (by omega)
        · exact sm_none
        · exact sm_str f1'
        · exact sm_int
      · obtain ⟨g1, g2, g3, g4, g5, g6⟩ := strF x hx
        refine qv_when (b := false) a (et_val (ed_isi (ed_var rfl hv) (kit_tup _))) (fun h => nomatch h) (fun _ B1 H1 e1 a1 => ?_)
        refine qv_when (b := true) a1 (et_val (ed_isi (ed_var rfl (hv.up e1)) (kit_str _))) (fun _ B2 H2 e2 a2 => ?_) (fun h => nomatch h)
        have hv2 := hv.up (e1.trans e2)
        have lb : ("b" : Str).length = 1 := by decide +kernel
        have la : ("a" : Str).length = 1 := by decide +kernel
        refine sv_ret (P := fun v B => ∃ e, e ∈ ([.str (x ++ "b"), .str "", .str (cutS x (some 1) none), .str ("a" ++ x), .int 0] : List PyData) ∧ Dd K B v e) a2 (ev_pick (d := .list [.str (x ++ "b"), .str "", .str (cutS x (some 1) none), .str ("a" ++ x), .int 0]) rfl (ed_lst (eds_cons (ed_op (ed_var rfl hv2) ed_str (rd_addS (by omega))) (eds_cons ed_str (eds_cons (ed_slS (ed_var rfl hv2) (eo_some (K := K) ed_int) eo_none (by omega)) (eds_cons (ed_op ed_str (ed_var rfl hv2) (rd_addS (by omega))) (eds_cons ed_int eds_nil)))))) (.inl rfl) (fun z => nomatch z) (by show 5 < 1073741824; decide)) fun v4 B4 H4 e4 a4 ⟨e, he, h4⟩ => fin e v4 B4 H4 a4 h4 ?_
        simp only [List.mem_cons, List.mem_nil_iff, or_false] at he
        rcases he with rfl | rfl | rfl | rfl | rfl
        · exact sm_str g2
        · exact sm_str (by decide +kernel)
        · exact sm_str g3
        · exact sm_str g4
        · exact sm_int
    · have hsm : ∀ y ∈ ds, Sm (n + 2) y := fun y hy => (smD_sm n y (hall y hy)).le (by omega)
      have hsh : SeqAt.shaped (.tuple ds) = true ∨ True := .inr trivial
      have dr : ∀ (σ : L2.St) B2 (m : Int), σ[0]? = some (some (V.ref p)) → 0 < m → m < 1073741824 → EV (Fm.box p) (tCall (spTake K) [] E0 (tCons (tVar 0) (tCons (tC (.int m)) tNil))) σ B2 (fun v _ => ∃ i : Int, v = .int i ∧ 0 ≤ i ∧ i < m) := fun σ B2 m hσ h0 h1 => ev_take hσ ed_int h0 h1
      refine qv_when (b := true) a (et_val (ed_isi (ed_var rfl hv) (kit_tup _))) (fun _ B1 H1 e1 a1 => ?_) (fun h => nomatch h)
      refine qv_asg (P := fun v _ => ∃ i : Int, v = .int i ∧ 0 ≤ i ∧ i < (ds.length : Nat) + 1) a1 (ev_take rfl (ed_op (ev_cb (eds_cons (ed_var rfl (hv.up e1)) eds_nil) (rc_len (x := .tuple ds) rfl)) ed_int rd_add) (by show (0 : Int) < (ds.length : Nat) + 1; omega) (by show ((ds.length : Nat) : Int) + 1 < 1073741824; omega)) fun vat B2 H2 e2 a2 ⟨i, hi, i0, i1⟩ => ?_
      subst hi
      have eB2 := e1.trans e2
      refine qv_whenB (c := !ds.isEmpty) a2 (eb_and (et_is (et_cmp (ed_op (ed_var rfl (hv.up eB2)) (ed_tup eds_nil) (rd_neD (lay_sh hsd) rfl))) (by rw [eqvT_nil])) fun _ => eb_and' (et_is (et_cmp (K := K) (ed_op (ed_var rfl (.int ((n + 1 : Nat) : Int))) ed_int rd_gt)) (decide_eq_true (by omega))) (eb_cmp (P := fun v _ => ∃ b, v = .bl b) (ev_op (P' := DD K (.int 0)) (dr _ _ 5 rfl (by decide) (by decide)) ed_int (fun _ _ _ _ h => h) ?_) fun v B h => h)) (fun hne B3 H3 e3 a3 => ?_) (fun B3 H3 e3 a3 => ?_)
      · intro B6 _ H6 u v j6 ⟨k, hu, _⟩ hv Q q
        exact ⟨k, 0, hu, dd_int hv, q _ B6 H6 (Step.refl j6.e) j6 ⟨_, rfl⟩⟩
      · have hpos : 0 < ds.length := by
          cases ds with
          | nil => cases hne
          | cons _ _ => exact Nat.succ_pos _
        have eB3 := eB2.trans e3
        refine qv_asg a3 (ed_op (ev_cb (eds_cons (ed_var rfl (.int i)) eds_nil) rc_int1) (ev_cb (eds_cons (ed_var rfl (hv.up eB3)) eds_nil) (rc_len (x := .tuple ds) rfl)) (rd_mod (by show (0 : Int) < (ds.length : Nat); omega))) fun vj B4 H4 e4 a4 hj => ?_
        obtain rfl := dd_int hj
        have j0 : 0 ≤ i % ((ds.length : Nat) : Int) := Int.emod_nonneg i (by omega)
        have j1 : i % ((ds.length : Nat) : Int) < (ds.length : Nat) := Int.emod_lt_of_pos i (by omega)
        obtain ⟨j, hjd⟩ : ∃ j : Int, j = i % ((ds.length : Nat) : Int) := ⟨_, rfl⟩
        have hlj : lenD (.tuple ds) = ((ds.length : Nat) : Int) := rfl
        rw [hlj, ← hjd]
        rw [← hjd] at j0 j1
        obtain ⟨x, hx⟩ : ∃ x, ds[j.toNat]? = some x := ⟨_, List.getElem?_eq_getElem (by omega)⟩
        have hat : atI ds j = some x := by
          have h := atI_nat hx
          rw [show ((j.toNat : Nat) : Int) = j by omega] at h
          exact h
        have hxs := hall x (List.mem_of_getElem? hx)
        have eB4 := eB3.trans e4
        have hv4 := hv.up eB4
        have L1 := cutL_len ds none (some j)
        have L2 := cutL_len ds (some (j + 1)) none
        refine sv_ret (P := fun v B => ∃ e, Dd K B v (.tuple ((cutL ds none (some j) ++ [e]) ++ cutL ds (some (j + 1)) none)) ∧ Sm (n + 2) e) a4 (ev_op (P := fun v B => ∃ e, Dd K B v (.tuple (cutL ds none (some j) ++ [e])) ∧ Sm (n + 2) e) (P' := DD K (.tuple (cutL ds (some (j + 1)) none))) (ev_op (P := DD K (.tuple (cutL ds none (some j)))) (P' := fun v B => ∃ e, Dd K B v (.tuple [e]) ∧ Sm (n + 2) e) (ed_slT (ed_var rfl hv4) eo_none (eo_some (K := K) (ed_var rfl (.int j)))) ?_ upc_dd ?_) (ed_slT (ed_var rfl hv4) (eo_some (K := K) (ed_op (ed_var rfl (.int j)) ed_int rd_add)) eo_none) (fun v B B' e ⟨x, h1, h2⟩ => ⟨x, h1.up e, h2⟩) ?_) fun v9 B9 H9 e9 a9 ⟨e, h9, hs9⟩ => fin _ v9 B9 H9 a9 h9 ?_
        · intro B5 e5 H5 j5 Q5 q5
          refine ⟨.ref p, rfl, ?_⟩
          refine (ed_op (F := Fm.box p) (K := K) (σ := [some (.ref p), some v, some (.int ((n + 1 : Nat) : Int)), some (.int j), none]) (B := B4) (ta := tVar 1) (tb := tVar 3) (ed_var (i := 1) rfl hv4) (ed_var (i := 3) rfl (.int j)) (rd_ixT hat)) B5 e5 H5 j5 _ fun vx B6 H6 s6 j6 g6 => ?_
          refine ⟨_, rfl, ((n + 1 : Nat) : Int), 1, rfl, rfl, ?_⟩
          refine ⟨p, vx, B6, x, ?_, j6, g6, hxs, fun v' B7 H7 e7 s7 j7 g7 hs7 => ⟨by show 1 ≤ sizeLine; decide, fun p' hp' => q5 (.ref p') _ _ ((s6.trans s7).trans (Step.alloc j7.e hp')) (j7.alloc hp') ⟨e7, .tup (ta_of upd_same) (by show 1 ≤ sizeLine; decide) (.cons (g7.up (Ex.new (fresh_back j7.e hp'))) .nil), hs7⟩⟩⟩
          show [V.ref p, vx, V.int (((n + 1 : Nat) : Int) - 1)] = [V.ref p, vx, V.int ((n : Nat) : Int)]
          rw [show (((n + 1 : Nat) : Int) - 1) = ((n : Nat) : Int) by omega]
        · intro B5 e5 H5 u w5 j5 hu ⟨e, h1, h2⟩ Q5 q5
          exact rd_addT (F := Fm.box p) (K := K) (B := B5) (by simp only [List.length_cons, List.length_nil]; omega) B5 (Ex.refl B5) H5 u w5 j5 hu h1 Q5 fun z B6 H6 s6 j6 g6 => q5 z B6 H6 s6 j6 ⟨e, g6, h2⟩
        · intro B5 e5 H5 u w5 j5 ⟨e, h1, h2⟩ hw Q5 q5
          exact rd_addT (F := Fm.box p) (K := K) (B := B5) (by simp only [List.length_append, List.length_cons, List.length_nil]; omega) B5 (Ex.refl B5) H5 u w5 j5 h1 hw Q5 fun z B6 H6 s6 j6 g6 => q5 z B6 H6 s6 j6 ⟨e, g6, h2⟩
        · refine sm_tup fun y hy => ?_
          simp only [List.mem_append, List.mem_cons, List.mem_nil_iff, or_false] at hy
          rcases hy with (hy | rfl) | hy
          · exact hsm y (mem_cutL hy)
          · exact hs9
          · exact hsm y (mem_cutL hy)
      have eB3 := eB2.trans e3
      refine qv_asg (P := fun v _ => ∃ h : Int, v = .int h ∧ 0 ≤ h ∧ h < 8) a3 (dr _ _ 8 rfl (by decide) (by decide)) fun vh B10 H10 e10 a10 ⟨h, hh, _, _⟩ => ?_
      subst hh
      have eB10 := eB3.trans e10
      refine qv_when (b := PyData.eqv (.int h) (.int 0)) a10 (et_cmp (ed_op (ed_var rfl (.int h)) ed_int (rd_eqD rfl rfl))) (fun _ B11' H11' e' a' => ?_) (fun _ B11 H11 e11 a11 => ?_)
      · have hv' := hv.up (eB10.trans e')
        refine sv_ret (P := DD K (.list ds)) a' (ev_cb (eds_cons (ed_var rfl hv') eds_nil) rc_lstT) fun v9 B9 H9 e9 a9 h9 => fin _ v9 B9 H9 a9 h9 ?_
        exact (sm_lst fun y hy => hsm y hy).le (by omega)
      have eB11 := eB10.trans e11
      refine qv_when (b := PyData.eqv (.int h) (.int 1)) a11 (et_cmp (ed_op (ed_var rfl (.int h)) ed_int (rd_eqD rfl rfl))) (fun _ B12' H12' e' a' => ?_) (fun _ B12 H12 e12 a12 => ?_)
      · have hv' := hv.up (eB11.trans e')
        refine sv_ret (P := DD K (.tuple (cutL ds none (some i) ++ cutL ds (some (i + 1)) none))) a' (ed_op (ed_slT (ed_var rfl hv') eo_none (eo_some (K := K) (ed_var rfl (.int i)))) (ed_slT (ed_var rfl hv') (eo_some (K := K) (ed_op (ed_var rfl (.int i)) ed_int rd_add)) eo_none) (rd_addT (by have h1 := cutL_len ds none (some i); have h2 := cutL_len ds (some (i + 1)) none; have h3 := cutL_len ds (some i) none; have h4 := cutL_len ds (some i) (some (i + 1)); have h5 := cutL_len ds none (some (-1)); have h6 := cutL_len ds none (some 1); (try simp only [List.length_append, List.length_cons, List.length_nil]); omega))) fun v9 B9 H9 e9 a9 h9 => fin _ v9 B9 H9 a9 h9 ?_
        refine sm_tup fun y hy => ?_
        simp only [List.mem_append, List.mem_cons, List.mem_nil_iff, or_false] at hy
        rcases hy with hy | hy <;> exact hsm y (mem_cutL hy)
      have eB12 := eB11.trans e12
      refine qv_when (b := PyData.eqv (.int h) (.int 2)) a12 (et_cmp (ed_op (ed_var rfl (.int h)) ed_int (rd_eqD rfl rfl))) (fun _ B13' H13' e' a' => ?_) (fun _ B13 H13 e13 a13 => ?_)
      · have hv' := hv.up (eB12.trans e')
        refine sv_ret (P := DD K (.tuple ((cutL ds none (some i) ++ cutL ds (some i) (some (i + 1))) ++ cutL ds (some i) none))) a' (ed_op (ed_op (ed_slT (ed_var rfl hv') eo_none (eo_some (K := K) (ed_var rfl (.int i)))) (ed_slT (ed_var rfl hv') (eo_some (K := K) (ed_var rfl (.int i))) (eo_some (K := K) (ed_op (ed_var rfl (.int i)) ed_int rd_add))) (rd_addT (by have h1 := cutL_len ds none (some i); have h2 := cutL_len ds (some (i + 1)) none; have h3 := cutL_len ds (some i) none; have h4 := cutL_len ds (some i) (some (i + 1)); have h5 := cutL_len ds none (some (-1)); have h6 := cutL_len ds none (some 1); (try simp only [List.length_append, List.length_cons, List.length_nil]); omega))) (ed_slT (ed_var rfl hv') (eo_some (K := K) (ed_var rfl (.int i))) eo_none) (rd_addT (by have h1 := cutL_len ds none (some i); have h2 := cutL_len ds (some (i + 1)) none; have h3 := cutL_len ds (some i) none; have h4 := cutL_len ds (some i) (some (i + 1)); have h5 := cutL_len ds none (some (-1)); have h6 := cutL_len ds none (some 1); (try simp only [List.length_append, List.length_cons, List.length_nil]); omega))) fun v9 B9 H9 e9 a9 h9 => fin _ v9 B9 H9 a9 h9 ?_
        refine sm_tup fun y hy => ?_
        simp only [List.mem_append, List.mem_cons, List.mem_nil_iff, or_false] at hy
        rcases hy with (hy | hy) | hy <;> exact hsm y (mem_cutL hy)
      have eB13 := eB12.trans e13
      refine qv_when (b := PyData.eqv (.int h) (.int 3)) a13 (et_cmp (ed_op (ed_var rfl (.int h)) ed_int (rd_eqD rfl rfl))) (fun _ B14' H14' e' a' => ?_) (fun _ B14 H14 e14 a14 => ?_)
      · have hv' := hv.up (eB13.trans e')
        refine sv_ret (P := DD K (.tuple (cutL ds (some i) none ++ cutL ds none (some i)))) a' (ed_op (ed_slT (ed_var rfl hv') (eo_some (K := K) (ed_var rfl (.int i))) eo_none) (ed_slT (ed_var rfl hv') eo_none (eo_some (K := K) (ed_var rfl (.int i)))) (rd_addT (by have h1 := cutL_len ds none (some i); have h2 := cutL_len ds (some (i + 1)) none; have h3 := cutL_len ds (some i) none; have h4 := cutL_len ds (some i) (some (i + 1)); have h5 := cutL_len ds none (some (-1)); have h6 := cutL_len ds none (some 1); (try simp only [List.length_append, List.length_cons, List.length_nil]); omega))) fun v9 B9 H9 e9 a9 h9 => fin _ v9 B9 H9 a9 h9 ?_
        refine sm_tup fun y hy => ?_
        simp only [List.mem_append, List.mem_cons, List.mem_nil_iff, or_false] at hy
        rcases hy with hy | hy <;> exact hsm y (mem_cutL hy)
      have eB14 := eB13.trans e14
      refine qv_when (b := PyData.eqv (.int h) (.int 4)) a14 (et_cmp (ed_op (ed_var rfl (.int h)) ed_int (rd_eqD rfl rfl))) (fun _ B15' H15' e' a' => ?_) (fun _ B15 H15 e15 a15 => ?_)
      · have hv' := hv.up (eB14.trans e')
        refine sv_ret (P := DD K (.tuple (ds ++ [.tuple []]))) a' (ed_op (ed_var rfl hv') (ed_tup (eds_cons (ed_tup eds_nil) eds_nil)) (rd_addT (by have h1 := cutL_len ds none (some i); have h2 := cutL_len ds (some (i + 1)) none; have h3 := cutL_len ds (some i) none; have h4 := cutL_len ds (some i) (some (i + 1)); have h5 := cutL_len ds none (some (-1)); have h6 := cutL_len ds none (some 1); (try simp only [List.length_append, List.length_cons, List.length_nil]); omega))) fun v9 B9 H9 e9 a9 h9 => fin _ v9 B9 H9 a9 h9 ?_
        refine sm_tup fun y hy => ?_
        simp only [List.mem_append, List.mem_cons, List.mem_nil_iff, or_false] at hy
        rcases hy with hy | rfl
        · exact hsm y hy
        · exact (sm_tup (n := 0) (ds := []) fun z hz => nomatch hz).le (by omega)
      have eB15 := eB14.trans e15
      refine qv_when (b := PyData.eqv (.int h) (.int 5)) a15 (et_cmp (ed_op (ed_var rfl (.int h)) ed_int (rd_eqD rfl rfl))) (fun _ B16' H16' e' a' => ?_) (fun _ B16 H16 e16 a16 => ?_)
      · have hv' := hv.up (eB15.trans e')
        refine sv_ret (P := DD K (.tuple ((cutL ds none (some i) ++ [.int 0]) ++ cutL ds (some i) none))) a' (ed_op (ed_op (ed_slT (ed_var rfl hv') eo_none (eo_some (K := K) (ed_var rfl (.int i)))) (ed_tup (eds_cons ed_int eds_nil)) (rd_addT (by have h1 := cutL_len ds none (some i); have h2 := cutL_len ds (some (i + 1)) none; have h3 := cutL_len ds (some i) none; have h4 := cutL_len ds (some i) (some (i + 1)); have h5 := cutL_len ds none (some (-1)); have h6 := cutL_len ds none (some 1); (try simp only [List.length_append, List.length_cons, List.length_nil]); omega))) (ed_slT (ed_var rfl hv') (eo_some (K := K) (ed_var rfl (.int i))) eo_none) (rd_addT (by have h1 := cutL_len ds none (some i); have h2 := cutL_len ds (some (i + 1)) none; have h3 := cutL_len ds (some i) none; have h4 := cutL_len ds (some i) (some (i + 1)); have h5 := cutL_len ds none (some (-1)); have h6 := cutL_len ds none (some 1); (try simp only [List.length_append, List.length_cons, List.length_nil]); omega))) fun v9 B9 H9 e9 a9 h9 => fin _ v9 B9 H9 a9 h9 ?_
        refine sm_tup fun y hy => ?_
        simp only [List.mem_append, List.mem_cons, List.mem_nil_iff, or_false] at hy
        rcases hy with (hy | rfl) | hy
        · exact hsm y (mem_cutL hy)
        · exact sm_int
        · exact hsm y (mem_cutL hy)
      have eB16 := eB15.trans e16
      refine qv_when (b := PyData.eqv (.int h) (.int 6)) a16 (et_cmp (ed_op (ed_var rfl (.int h)) ed_int (rd_eqD rfl rfl))) (fun _ B17' H17' e' a' => ?_) (fun _ B17 H17 e17 a17 => ?_)
      · have hv' := hv.up (eB16.trans e')
        refine sv_ret (P := DD K (.tuple (cutL ds none (some (-1)) ++ cutL ds none (some 1)))) a' (ed_op (ed_slT (ed_var rfl hv') eo_none (eo_some (K := K) (ed_neg ed_int))) (ed_slT (ed_var rfl hv') eo_none (eo_some (K := K) ed_int)) (rd_addT (by have h1 := cutL_len ds none (some i); have h2 := cutL_len ds (some (i + 1)) none; have h3 := cutL_len ds (some i) none; have h4 := cutL_len ds (some i) (some (i + 1)); have h5 := cutL_len ds none (some (-1)); have h6 := cutL_len ds none (some 1); (try simp only [List.length_append, List.length_cons, List.length_nil]); omega))) fun v9 B9 H9 e9 a9 h9 => fin _ v9 B9 H9 a9 h9 ?_
        refine sm_tup fun y hy => ?_
        simp only [List.mem_append, List.mem_cons, List.mem_nil_iff, or_false] at hy
        rcases hy with hy | hy <;> exact hsm y (mem_cutL hy)
      have eB17 := eB16.trans e17
      exact sv_ret (P := DD K .none) a17 ed_non fun v9 B9 H9 e9 a9 h9 => fin _ v9 B9 H9 a9 h9 sm_none
end
end K33

namespace K33
open PySem PySem.Spec PyProof.Rows L2 Evl Ex Dx
open PySem.PyData (strOk)

section
variable {P : Program} {w : World} {K : PySem.W.Frag} {mg : Str → Option Value} {base : Heap} {f : Addr} {fd : FuncData}

/-! ### lists that grow while draws are made -/
section
variable {F : Fm} {B1 H1 B' H' B5 H5 : Hp} {fa : Addr} {acc : List V} {ds : List PyData}
theorem cq_set {acc' : List V} {ds' : List PyData} (hD : H1 fa = none) (k1 : Ok F B1 H1) (s : Step F.M B1 H1 B' H') (k : Ok F B' H') (hb : B' fa = none) (ha : DdAll K B' acc' ds') : Cq F K B1 H1 fa ds' (upd H' fa (.lst acc')) := by
  have nm : ¬ F.M fa := fun m => (F.lv H1 fa k1.j m).ne hD
  have s2 : Step F.M B1 H1 B' (upd H' fa (.lst acc')) := ⟨s.bb, fun a o h => by rw [upd_ne (ne_of_none h hb)]; exact k.e a o h, fun a o n h => by rw [upd_ne (ne_of_none h hD)]; exact s.keep a o n h, s.sep, fun a n => by
    have ha : a ≠ fa := fun z => n (z ▸ hD)
    rw [upd_ne ha]
    exact s.live a n, fun a n => (s.liv a n).upd fun z => n.ne (z ▸ hD)⟩
  have j2 : F.J (upd H' fa (.lst acc')) := F.fr H' fa _ k.j nm
  exact ⟨B', acc', s2, k1.next s2 j2, hb, upd_same, ha⟩
/-- opened: the list stands as data for a while -/
theorem cq_open (hD : H1 fa = none) (k1 : Ok F B1 H1) (k : Ok F B' H') (hb : B' fa = none) (hd : H' fa = some (.lst acc)) (ha : DdAll K B' acc ds) (hl : ds.length ≤ 16777216) : Ok F (upd B' fa (.lst acc)) H' ∧ Dd K (upd B' fa (.lst acc)) (.ref fa) (.list ds) := by
  have nm : ¬ F.M fa := fun m => (F.lv H1 fa k1.j m).ne hD
  refine ⟨⟨fun a o h => ?_, k.j, fun a m => ?_⟩, .lst upd_same (by rw [ha.len, sizeLine_eq]; exact hl) (ha.up (Ex.new hb))⟩
  · by_cases e : a = fa
    · subst e
      rw [upd_same] at h
      rw [hd]
      exact h
    · rw [upd_ne e] at h
      exact k.e a o h
  · have e : a ≠ fa := fun z => nm (z ▸ m)
    rw [upd_ne e]
    exact k.av a m
def del1 (B : Hp) (fa : Addr) : Hp := fun a => if a = fa then none else B a
theorem del1_ne {B : Hp} {a : Addr} (h : a ≠ fa) : del1 B fa a = B a := by
  unfold del1
  rw [if_neg h]
theorem del1_same {B : Hp} : del1 B fa fa = none := by
  unfold del1
  rw [if_pos rfl]
theorem del1_sub {B : Hp} {a : Addr} {o : HO} (h : del1 B fa a = some o) : a ≠ fa ∧ B a = some o := by
  unfold del1 at h
  split at h
  · cases h
  · rename_i n
    exact ⟨n, h⟩
/-- closed again -/
theorem cq_close (hD : H1 fa = none) (k1 : Ok F B1 H1) (s : Step F.M B1 H1 B' H') (hb : B' fa = none) (hd : H' fa = some (.lst acc)) (s5 : Step F.M (upd B' fa (.lst acc)) H' B5 H5) (k5 : Ok F B5 H5) :
    Step F.M B1 H1 (del1 B5 fa) H5 ∧ Ok F (del1 B5 fa) H5 ∧ Ex B' (del1 B5 fa) ∧ H5 fa = some (.lst acc) := by
  have nm : ¬ F.M fa := fun m => (F.lv H1 fa k1.j m).ne hD
  have eB : Ex B' (del1 B5 fa) := fun a o h => by
    have n : a ≠ fa := ne_of_none h hb
    rw [del1_ne n]
    exact s5.bb a o (by rw [upd_ne n]; exact h)
  have eH : Ex (del1 B5 fa) H5 := fun a o h => k5.e a o (del1_sub h).2
  have st : Step F.M B1 H1 (del1 B5 fa) H5 := ⟨fun a o h => eB a o (s.bb a o h), eH, fun a o n h => s5.keep a o n (s.keep a o n h), fun a h n => by
    have na : a ≠ fa := fun z => n.ne (z ▸ hD)
    rw [del1_ne na]
    exact s5.sep a (by rw [upd_ne na]; exact s.sep a h n) (s.liv a n), fun a n => s5.live a (s.live a n), fun a n => s5.liv a (s.liv a n)⟩
  exact ⟨st, k1.next st k5.j, eB, s5.keep fa _ nm hd⟩
/-- flat data have no list within -/
theorem flat_del {B : Hp} : ∀ {vs : List V} {ds : List PyData}, DdAll K B vs ds → ds.all flatD = true → DdAll K (del1 B fa) vs ds
  | _, _, .nil, _ => .nil
  | _, _, .cons a t, h => by
    rw [List.all_cons, Bool.and_eq_true] at h
    refine .cons ?_ (flat_del t h.2)
    cases a with
    | non => exact .non
    | bl b => exact .bl b
    | int i => exact .int i
    | str x hl => exact .str x hl
    | lst _ _ _ => cases h.1
    | tup _ _ _ => cases h.1
theorem tup_del {B : Hp} {v : V} {xs : List PyData} (h : Dd K B v (.tuple xs)) (hf : B fa = some (.lst acc)) (fl : xs.all flatD = true) : Dd K (del1 B fa) v (.tuple xs) := by
  obtain ⟨a, ys, rfl, h1, h2, h3⟩ := dd_tupA h
  refine .tup ?_ h2 (flat_del h3 fl)
  rcases h1 with h1 | h1
  · have n : a ≠ fa := fun z => by rw [z, hf] at h1; cases h1
    exact .inl (by rw [del1_ne n]; exact h1)
  · exact .inr h1
end
/-! ### _law_shuffled -/
def spShuf (K : PySem.W.Frag) : Sp := fun vs H Q _ => ∃ (p : Addr) (v : V) (B : Hp) (rs : List PyData), vs = [.ref p, v] ∧ Ok (Fm.box p) B H ∧ Dd K B v (.list rs) ∧ rs.length ≤ 100 ∧
  ∀ v' B' H' (rs' : List PyData), Step (fun a => a = p) B H B' H' → Ok (Fm.box p) B' H' → Dd K B' v' (.list rs') → rs'.Perm rs → Q v' H'
theorem DdAll.ins {H : Hp} {vs : List V} {ds : List PyData} {v : V} {d : PyData} (h : DdAll K H vs ds) (g : Dd K H v d) (n : Nat) : DdAll K H (vs.take n ++ [v] ++ vs.drop n) (ds.take n ++ [d] ++ ds.drop n) := ((h.take n).snoc g).app (h.drop n)
theorem ins_perm (n : Nat) (l : List PyData) (d : PyData) : (l.take n ++ [d] ++ l.drop n).Perm (l ++ [d]) := by
  have h1 : (l.take n ++ [d] ++ l.drop n).Perm (d :: (l.take n ++ l.drop n)) := by
    rw [List.append_assoc]
    exact List.perm_middle
  rw [List.take_append_drop] at h1
  exact h1.trans (List.perm_append_singleton d l).symm

abbrev s_law_shuffled : Stmt := topS 52
abbrev N_law_shuffled : List Str := ["box", "some", "found", "one"]
theorem sc_law_shuffled : FnScope N_law_shuffled ["box", "some"] (defScope s_law_shuffled) := ⟨rfl, rfl, rfl, by decide +kernel, rfl, by decide +kernel, by decide +kernel⟩
theorem ok_shuffled (F : Fun K "_law_shuffled" "_law_shuffled" s_law_shuffled f fd) (T : TC K mg) (C_law_take : Callee P w K mg base "_law_take" 1 ["box", "many"] (spTake K)) : FnOk P w K mg base CX0 2 f fd ["box", "some"] (spShuf K) := by
  refine F.ok sc_law_shuffled (fun vs H Q E h => ?_) (fun cdv A outer s H vs Q E hr h => ?_)
  · obtain ⟨p, v, B, rs, rfl, _⟩ := h
    rfl
  · obtain ⟨p, v, B, rs, rfl, ok, hv, hl, q⟩ := h
    obtain ⟨l, xs, rfl, h1, _, hx⟩ := dd_lst hv
    refine ⟨_, (pss_cons (ps_set (i := 2) sc_law_shuffled.nd rfl (Or.inl rfl) (pe_lst pa_nil))
      (pss_cons (ps_for PassesOwn.never rfl (pi_seqK K (pv 1)) (pg_name (i := 3) sc_law_shuffled.nd rfl (Or.inl rfl)) (pss_one (ps_expr (pe_bm PySem.F.plainAttrs_list PySem.F.slot_list_insert PySem.F.type_list_insert mt_insert (pv 2) (pa_cons (pe_callC C_law_take (hr.mono (by decide)) rfl pass0 (pa_cons (pv 0) (pa_cons (pe_op (op_addK K) (pe_callB (call_lenK K) (by rfl) T.m_len bt_len (pa_cons (pv 2) pa_nil)) pe_int) pa_nil))) (pa_cons (pv 3) pa_nil))))))
      (pss_one (ps_ret (pv 2))))), ?_⟩
    refine ⟨Nat.zero_le _, fun fa hfa => ?_⟩
    have nfp : fa ≠ p := fun z => ((Fm.box p).lv H p ok.j rfl).ne (z ▸ hfa)
    refine ⟨.ref l, rfl, l, rfl, .inl ⟨⟨xs, ex_l (ok.e.trans (Ex.new hfa)) (sq_of h1)⟩, for_list (K := K) (xs := xs) (fun i σ' H' => (∃ o, σ' = [some (.ref p), some (.ref l), some (.ref fa), o]) ∧ ∃ rs', rs'.Perm (rs.take i) ∧ Cq (Fm.box p) K B H fa rs' H') ⟨⟨none, rfl⟩, [], List.Perm.refl _, cq_start ok hfa⟩ (fun i σ' H' _ ⟨_, rs', _, B', acc, s', k', _⟩ => ex_l (s'.bb.trans k'.e) (sq_of h1)) (fun i x σ' H' hi ⟨⟨o, ho⟩, rs', hp, B', acc, s', k', hb, hd, ha⟩ => ?_) (fun σ' H' ⟨⟨o, ho⟩, rs', hp, c⟩ => ?_)⟩⟩
    · subst ho
      obtain ⟨r, hr1, hr2⟩ := hx.getv hi
      have hlt : i < rs.length := (List.getElem?_eq_some_iff.mp hr1).1
      have hlen : rs'.length = i := by
        rw [hp.length_eq, List.length_take]
        omega
      have hacc : acc.length = i := by rw [ha.len, hlen]
      refine ⟨.ref fa, rfl, .inl ⟨rfl, _, sq_of hd⟩, ?_⟩
      refine ⟨.ref p, rfl, ⟨.ref fa, rfl, ⟨.ref fa, acc.length, rfl, .inl ⟨_, sq_of hd, rfl⟩, .inl ⟨_, 1, rfl, rfl, ?_⟩⟩⟩⟩
      refine ⟨p, [.int ((acc.length : Nat) + 1)], B', [.int ((acc.length : Nat) + 1)], rfl, k', .cons (.int _) .nil, ⟨_, rfl, by omega, by omega⟩, fun vj B4 H4 s4 k4 ⟨j, m, em, ej, j0, j1⟩ => ?_⟩
      cases em
      subst ej
      refine ⟨x, rfl, ?_⟩
      have hd4 : H4 fa = some (.lst acc) := s4.keep fa _ nfp hd
      refine ⟨fa, acc, j, x, rfl, rfl, hd4, by rw [sizeLine_eq]; omega, j0, by omega, ?_⟩
      have hb4 : B4 fa = none := s4.sep fa hb ⟨_, hd, trivial⟩
      have c := cq_set (acc' := acc.take j.toNat ++ [x] ++ acc.drop j.toNat) (ds' := rs'.take j.toNat ++ [r] ++ rs'.drop j.toNat) hfa ok (s'.trans s4) k4 hb4 (DdAll.ins (ha.up s4.bb) (hr2.up (s'.bb.trans s4.bb)) j.toNat)
      refine ⟨⟨_, rfl⟩, _, ?_, c⟩
      rw [take_snoc hr1]
      exact (ins_perm _ _ _).trans (hp.append_right [r])
    · subst ho
      refine ⟨.ref fa, rfl, ?_⟩
      rw [hx.len, List.take_length] at hp
      obtain ⟨B2, s2, k2, g2⟩ := cq_done ok hfa (by rw [hp.length_eq]; omega) c
      exact q _ B2 H' rs' s2 k2 g2 hp
end
end K33

namespace K33
open PySem PySem.Spec PyProof.Rows L2 Evl Ex Dx
open PySem.PyData (strOk)

section
variable {P : Program} {w : World} {K : PySem.W.Frag} {mg : Str → Option Value} {base : Heap} {f : Addr} {fd : FuncData}

abbrev W4 : List Str := ["a", "ab", "b", "aab"]
abbrev L8 : List Str := ["left", "right", "wrap", "ahead", "behind", "same", "first", "last"]
def RG (n : Nat) (r : PyData) : Prop := ruleD r n = true ∧ smD 1 r = true
theorem inS_iff {s : Str} {L : List Str} : inS s L = true ↔ s ∈ L := by
  unfold inS
  rw [List.any_eq_true]
  constructor
  · rintro ⟨x, hx, he⟩
    rw [beq_iff_eq] at he
    exact he ▸ hx
  · intro h
    exact ⟨s, h, beq_self_eq_true s⟩
theorem w4_ok : ∀ u ∈ W4, wordD (.str u) = true ∧ u ∈ L12 ∧ u.length ≤ 10 := by decide +kernel
theorem l8_ok : ∀ u ∈ L8, u ∈ L12 ∧ u.length ≤ 10 ∧ (u ∈ WSH ∨ u ∈ TSH ∨ u ∈ OSH) ∧ (u ∈ OSH → inS u WSH = false) ∧ (u ∈ TSH → inS u WSH = false ∧ inS u OSH = false) := by decide +kernel
theorem inB_ok {k : Int} {n : Nat} (h0 : 0 ≤ k) (h1 : k < (n : Nat)) : inB (.int k) 0 ((n : Nat) - 1) = true := by
  unfold inB
  simp only [Bool.and_eq_true, decide_eq_true_eq]
  omega
theorem atomI {k : Int} {n : Nat} (hn : n ≤ 8) (h0 : 0 ≤ k) (h1 : k < (n : Nat)) : atomD (.int k) = true := by
  show (decide (0 ≤ k) && decide (k ≤ 40)) = true
  rw [Bool.and_eq_true, decide_eq_true_eq, decide_eq_true_eq]
  omega
theorem atomS {s : Str} (h : s ∈ L12) : atomD (.str s) = true := List.contains_iff_mem.mpr h
theorem sm1 {xs : List PyData} (hl : xs.length ≤ 20) (h : ∀ x ∈ xs, atomD x = true) : smD 1 (.tuple xs) = true := by
  show (atomD (.tuple xs) || (decide (xs.length ≤ 3000) && xs.all (smD 0))) = true
  have e : xs.all (smD 0) = true := List.all_eq_true.mpr fun x hx => h x hx
  rw [decide_eq_true (show xs.length ≤ 3000 by omega), e, Bool.true_and, Bool.or_true]
theorem rg_word {n : Nat} {k : Int} {wd u : Str} (hn : n ≤ 8) (h0 : 0 ≤ k) (h1 : k < (n : Nat)) (hw : wd ∈ WSH) (h8 : wd ∈ L8) (hu : u ∈ W4) : RG n (.tuple [.int k, .str wd, .str u]) := by
  refine ⟨?_, sm1 (by show 3 ≤ 20; decide) fun x hx => ?_⟩
  · show (inB (.int k) 0 ((n : Nat) - 1) && tailD wd [.str u] n) = true
    rw [inB_ok h0 h1]
    unfold tailD
    rw [if_pos (inS_iff.mpr hw)]
    show (true && (decide (1 = 1) && wordD (.str u))) = true
    rw [(w4_ok u hu).1]
    rfl
  · simp only [List.mem_cons, List.mem_nil_iff, or_false] at hx
    rcases hx with rfl | rfl | rfl
    · exact atomI hn h0 h1
    · exact atomS (l8_ok wd h8).1
    · exact atomS (w4_ok u hu).2.1
theorem rg_one {n : Nat} {k c : Int} {wd : Str} (hn : n ≤ 8) (h0 : 0 ≤ k) (h1 : k < (n : Nat)) (hw : wd ∈ OSH) (h8 : wd ∈ L8) (c0 : 0 ≤ c) (c1 : c < (n : Nat)) : RG n (.tuple [.int k, .str wd, .int c]) := by
  refine ⟨?_, sm1 (by show 3 ≤ 20; decide) fun x hx => ?_⟩
  · show (inB (.int k) 0 ((n : Nat) - 1) && tailD wd [.int c] n) = true
    rw [inB_ok h0 h1]
    unfold tailD
    rw [(l8_ok wd h8).2.2.2.1 hw, if_neg (by decide), if_pos (inS_iff.mpr hw)]
    show (true && (decide (1 = 1) && inB (.int c) 0 ((n : Nat) - 1))) = true
    rw [inB_ok c0 c1]
    rfl
  · simp only [List.mem_cons, List.mem_nil_iff, or_false] at hx
    rcases hx with rfl | rfl | rfl
    · exact atomI hn h0 h1
    · exact atomS (l8_ok wd h8).1
    · exact atomI hn c0 c1
theorem rg_two {n : Nat} {k c d : Int} {wd : Str} (hn : n ≤ 8) (h0 : 0 ≤ k) (h1 : k < (n : Nat)) (hw : wd ∈ TSH) (h8 : wd ∈ L8) (c0 : 0 ≤ c) (c1 : c < (n : Nat)) (d0 : 0 ≤ d) (d1 : d < (n : Nat)) : RG n (.tuple [.int k, .str wd, .int c, .int d]) := by
  refine ⟨?_, sm1 (by show 4 ≤ 20; decide) fun x hx => ?_⟩
  · show (inB (.int k) 0 ((n : Nat) - 1) && tailD wd [.int c, .int d] n) = true
    rw [inB_ok h0 h1]
    unfold tailD
    rw [((l8_ok wd h8).2.2.2.2 hw).1, ((l8_ok wd h8).2.2.2.2 hw).2, if_neg (by decide), if_neg (by decide), inS_iff.mpr hw, List.all_cons, List.all_cons, inB_ok c0 c1, inB_ok d0 d1]
    rfl
  · simp only [List.mem_cons, List.mem_nil_iff, or_false] at hx
    rcases hx with rfl | rfl | rfl | rfl
    · exact atomI hn h0 h1
    · exact atomS (l8_ok wd h8).1
    · exact atomI hn c0 c1
    · exact atomI hn d0 d1
theorem flat_atom {x : PyData} (h : atomD x = true) : flatD x = true := by
  rcases atom_is h with ⟨i, rfl, _⟩ | ⟨s, rfl, _⟩ <;> rfl
theorem RG.flat {n : Nat} {r : PyData} (h : RG n r) : ∃ xs, r = .tuple xs ∧ xs.all flatD = true := by
  obtain ⟨a, s, p, ps, rfl, _⟩ := ruleD_is h.1
  rcases smD_is h.2 with h1 | ⟨ds, e, _, h2⟩
  · cases h1
  · cases e
    exact ⟨_, rfl, List.all_eq_true.mpr fun x hx => flat_atom (h2 x hx)⟩
structure GR (n : Nat) (rs : List PyData) : Prop where
  len : rs.length ≤ 9
  ok : ∀ r ∈ rs, RG n r
  bk : backK (edges rs) n = none
theorem GR.ruleD {n : Nat} {rs : List PyData} (h : GR n rs) (r : PyData) (hr : r ∈ rs) : ruleD r n = true := (h.ok r hr).1
theorem edges_app (rs : List PyData) (r : PyData) : edges (rs ++ [r]) = edges rs ++ (if isOne r = true then [edge r] else []) := by
  unfold edges
  rw [List.filter_append, List.map_append]
  congr 1
  by_cases h : isOne r = true
  · rw [if_pos h, List.filter_cons, if_pos h]
    rfl
  · rw [if_neg h, List.filter_cons, if_neg h]
    rfl
theorem GR.snoc0 {n : Nat} {rs : List PyData} {r : PyData} (h : GR n rs) (hl : rs.length < 9) (hr : RG n r) (ho : isOne r = false) : GR n (rs ++ [r]) := ⟨by rw [List.length_append]; show rs.length + 1 ≤ 9; omega, fun x hx => by
  rcases List.mem_append.mp hx with h1 | h1
  · exact h.ok x h1
  · rw [List.mem_singleton.mp h1]
    exact hr, by
  rw [edges_app, ho, if_neg (by decide), List.append_nil]
  exact h.bk⟩
theorem GR.snoc1 {n : Nat} {rs : List PyData} {r : PyData} (h : GR n rs) (hl : rs.length < 9) (hr : RG n r) (ho : backK (edges (rs ++ [r])) n = none) : GR n (rs ++ [r]) := ⟨by rw [List.length_append]; show rs.length + 1 ≤ 9; omega, fun x hx => by
  rcases List.mem_append.mp hx with h1 | h1
  · exact h.ok x h1
  · rw [List.mem_singleton.mp h1]
    exact hr, ho⟩
theorem GR.perm {n : Nat} {rs rs' : List PyData} (h : GR n rs) (p : rs'.Perm rs) : GR n rs' := by
  have hok : ∀ r ∈ rs', RG n r := fun r hr => h.ok r (p.mem_iff.mp hr)
  refine ⟨by rw [p.length_eq]; exact h.len, hok, ?_⟩
  have pe : (edges rs').Perm (edges rs) := (p.filter isOne).map edge
  have b1 := backK_bk (E := edges rs) (n := n) fun a b hab => by
    have := edges_in (n := (n : Nat)) (fun r hr => (h.ok r hr).1) a b hab
    exact ⟨this.2.2.1, this.2.2.2⟩
  have b2 := backK_bk (E := edges rs') (n := n) fun a b hab => by
    have := edges_in (n := (n : Nat)) (fun r hr => (hok r hr).1) a b hab
    exact ⟨this.2.2.1, this.2.2.2⟩
  rw [(b2.ext fun q => pe.mem_iff).uniq b1]
  exact h.bk
def spGram (K : PySem.W.Frag) : Sp := fun vs H Q _ => ∃ (a : Addr) (ns : List Int) (B : Hp), vs = [.ref a, .int 9] ∧ Ex B H ∧ SqL K B a (ns.map V.int) ∧ ns.length ≤ 63 ∧
  ∀ v B' H' (n : Nat) (rs : List PyData), Step (fun _ => False) B H B' H' → Dd K B' v (.tuple [.int (n : Nat), .tuple rs]) → 1 ≤ n → n ≤ 8 → rs ≠ [] → GR n rs → Q v H'
theorem step_box {p : Addr} {B H B1 H1 B2 H2 : Hp} (hp : H p = none) (s1 : Step (fun _ => False) B H B1 H1) (s2 : Step (fun a => a = p) B1 H1 B2 H2) : Step (fun _ => False) B H B2 H2 :=
  ⟨s1.bb.trans s2.bb, s2.bh, fun a o _ h => s2.keep a o (fun z => ne_of_none h hp z) (s1.keep a o (fun z => z) h), fun a h n => s2.sep a (s1.sep a h n) (s1.liv a n), fun a n => s2.live a (s1.live a n), fun a n => s2.liv a (s1.liv a n)⟩
theorem cq_pass {F : Fm} {B1 H1 B' H' B4 H4 : Hp} {fa : Addr} {acc : List V} {ds : List PyData} (hD : H1 fa = none) (k1 : Ok F B1 H1) (s : Step F.M B1 H1 B' H') (hb : B' fa = none) (hd : H' fa = some (.lst acc)) (ha : DdAll K B' acc ds) (s4 : Step F.M B' H' B4 H4) (k4 : Ok F B4 H4) : Cq F K B1 H1 fa ds H4 := by
  have nm : ¬ F.M fa := fun m => (F.lv H1 fa k1.j m).ne hD
  exact ⟨B4, acc, s.trans s4, k4, s4.sep fa hb ⟨_, hd, trivial⟩, s4.keep fa _ nm hd, ha.up s4.bb⟩
def pK (i : Int) (r : PyData) : Bool := match r with
  | .tuple (x :: .str s :: _) => PyData.eqv x (.int i) && inS s WSH
  | _ => false
theorem evp_take {p : Addr} {σ : L2.St} {B : Hp} {i : Nat} {ta : TE} {E : XK} {m : Int} (hi : σ[i]? = some (some (.ref p))) (ha : ED (Fm.box p) K ta σ B (.int m)) (h0 : 0 < m) (h1 : m < 1073741824) : EV (Fm.box p) (tCall (spTake K) [] E (tCons (tVar i) (tCons ta tNil))) σ B (fun v B => ∃ n : Int, Dd K B v (.int n) ∧ 0 ≤ n ∧ n < m) := (ev_take hi ha h0 h1).imp fun v B1 _ ⟨n, hv, g0, g1⟩ => ⟨n, by rw [hv]; exact .int n, g0, g1⟩
/-- a pair, a triple whose parts are known up to a choice -/
theorem ev_tup3 {F : Fm} {σ : L2.St} {B : Hp} {ta tb tc : TE} {Pa Pb Pc : PyData → Prop} (ha : EV F ta σ B (fun v B => ∃ d, Dd K B v d ∧ Pa d)) (hb : EV F tb σ B (fun v B => ∃ d, Dd K B v d ∧ Pb d)) (hc : EV F tc σ B (fun v B => ∃ d, Dd K B v d ∧ Pc d)) :
    EV F (tTup (tCons ta (tCons tb (tCons tc tNil)))) σ B (fun v B => ∃ x y z, Dd K B v (.tuple [x, y, z]) ∧ Pa x ∧ Pb y ∧ Pc z) := fun B1 e0 H j Q q =>
  ha B1 e0 H j _ fun va B2 H2 s2 j2 ⟨x, h2, px⟩ => hb B2 (e0.trans s2.bb) H2 j2 _ fun vb B3 H3 s3 j3 ⟨y, h3, py⟩ => hc B3 ((e0.trans s2.bb).trans s3.bb) H3 j3 _ fun vc B4 H4 s4 j4 ⟨z, h4, pz⟩ =>
    ⟨by show 3 ≤ sizeLine; decide, fun p hp => q (.ref p) _ _ (((s2.trans s3).trans s4).trans (Step.alloc j4.e hp)) (j4.alloc hp) ⟨x, y, z, .tup (ta_of upd_same) (by show 3 ≤ sizeLine; decide) (.cons ((h2.up (s3.bb.trans s4.bb)).up (Ex.new (fresh_back j4.e hp))) (.cons ((h3.up s4.bb).up (Ex.new (fresh_back j4.e hp))) (.cons (h4.up (Ex.new (fresh_back j4.e hp))) .nil))), px, py, pz⟩⟩
theorem ev_any {F : Fm} {σ : L2.St} {B : Hp} {te : TE} {d : PyData} (h : ED F K te σ B d) : EV F te σ B (fun v B => ∃ e, Dd K B v e ∧ e = d) := h.imp fun v B1 _ hv => ⟨d, hv, rfl⟩
theorem ev_tup1 {F : Fm} {σ : L2.St} {B : Hp} {ta : TE} {Pa : PyData → Prop} (ha : EV F ta σ B (fun v B => ∃ d, Dd K B v d ∧ Pa d)) : EV F (tTup (tCons ta tNil)) σ B (fun v B => ∃ x, Dd K B v (.tuple [x]) ∧ Pa x) := fun B1 e0 H j Q q =>
  ha B1 e0 H j _ fun va B2 H2 s2 j2 ⟨x, h2, px⟩ => ⟨by show 1 ≤ sizeLine; decide, fun p hp => q (.ref p) _ _ (s2.trans (Step.alloc j2.e hp)) (j2.alloc hp) ⟨x, .tup (ta_of upd_same) (by show 1 ≤ sizeLine; decide) (.cons (h2.up (Ex.new (fresh_back j2.e hp))) .nil), px⟩⟩
theorem strs_len : ∀ L : List Str, (L.map PyData.str).length = L.length := fun L => List.length_map _

abbrev s_law_grammar : Stmt := topS 55
abbrev N_law_grammar : List Str := ["script", "most", "box", "kinds", "words", "rules", "k", "kind", "word", "rule"]
theorem sc_law_grammar : FnScope N_law_grammar ["script", "most"] (defScope s_law_grammar) := ⟨rfl, rfl, rfl, by decide +kernel, rfl, by decide +kernel, by decide +kernel⟩
theorem ok_grammar (F : Fun K "_law_grammar" "_law_grammar" s_law_grammar f fd) (T : TC K mg) (C_law_box : Callee P w K mg base "_law_box" 1 ["script", "k"] (spBoxN K)) (C_law_take : Callee P w K mg base "_law_take" 1 ["box", "many"] (spTake K)) (C_law_pick : Callee P w K mg base "_law_pick" 2 ["box", "some"] (spPick K))
    (C_law_unary : Callee P w K mg base "_law_unary" 1 ["rules"] (spF K preUn fUn)) (C_law_back_kind : Callee P w K mg base "_law_back_kind" 1 ["steps", "kinds"] (spF K preBack fBack)) (C_law_shuffled : Callee P w K mg base "_law_shuffled" 2 ["box", "some"] (spShuf K)) : FnOk P w K mg base CX0 3 f fd ["script", "most"] (spGram K) := by
  refine F.ok sc_law_grammar (fun vs H Q E h => ?_) (fun cdv A outer s H vs Q E hr h => ?_)
  · obtain ⟨a, ns, B, rfl, _⟩ := h
    rfl
  · obtain ⟨a, ns, B, rfl, e, hS, hl, q⟩ := h
    have hu64 : (A.deeper (envOfC "_law_grammar" (defScope s_law_grammar) s.heap.objs.size f cdv)).units + 64 < cLine := hr.units
    refine ⟨_, (pss_cons (ps_set (i := 2) sc_law_grammar.nd rfl (Or.inl rfl) (pe_callC C_law_box (hr.mono (by decide)) rfl pass0 (pa_cons (pv 0) (pa_cons pe_int pa_nil))))
      (pss_cons (ps_set (i := 3) sc_law_grammar.nd rfl (Or.inl rfl) (pe_callC C_law_pick (hr.mono (by decide)) rfl pass0 (pa_cons (pv 2) (pa_cons (pe_lst (pa_cons pe_int (pa_cons pe_int (pa_cons pe_int (pa_cons pe_int (pa_cons pe_int (pa_cons pe_int (pa_cons pe_int (pa_cons pe_int pa_nil))))))))) pa_nil))))
      (pss_cons (ps_set (i := 4) sc_law_grammar.nd rfl (Or.inl rfl) (pe_callC C_law_pick (hr.mono (by decide)) rfl pass0 (pa_cons (pv 2) (pa_cons (pe_lst (pa_cons (pe_lst (pa_cons pe_str pa_nil)) (pa_cons (pe_lst (pa_cons pe_str (pa_cons pe_str pa_nil))) (pa_cons (pe_lst (pa_cons pe_str (pa_cons pe_str (pa_cons pe_str pa_nil)))) (pa_cons (pe_lst (pa_cons pe_str (pa_cons pe_str pa_nil))) pa_nil))))) pa_nil))))
      (pss_cons (ps_set (i := 5) sc_law_grammar.nd rfl (Or.inl rfl) (pe_lst pa_nil))
      (pss_cons (ps_for PassesOwn.never rfl (pi_range1 rfl T.m_range (pa_cons (pe_op (op_addK K) pe_int (pe_callC C_law_take (hr.mono (by decide)) rfl pass0 (pa_cons (pv 2) (pa_cons (pe_op op_sub (pv 1) pe_int) pa_nil)))) pa_nil)) (pg_name (i := 6) sc_law_grammar.nd rfl (Or.inl rfl)) (pss_cons (ps_set (i := 7) sc_law_grammar.nd rfl (Or.inr rfl) (pe_callC C_law_take (hr.mono (by decide)) rfl pass0 (pa_cons (pv 2) (pa_cons (pv 3) pa_nil))))
      (pss_cons (ps_set (i := 8) sc_law_grammar.nd rfl (Or.inl rfl) (pe_callC C_law_pick (hr.mono (by decide)) rfl pass0 (pa_cons (pv 2) (pa_cons (pe_lst (pa_cons pe_str (pa_cons pe_str (pa_cons pe_str (pa_cons pe_str (pa_cons pe_str (pa_cons pe_str (pa_cons pe_str (pa_cons pe_str (pa_cons pe_str (pa_cons pe_str (pa_cons pe_str pa_nil)))))))))))) pa_nil))))
      (pss_cons (ps_set (i := 9) sc_law_grammar.nd rfl (Or.inl rfl) (pe_tup (pa_cons (pv 7) (pa_cons (pv 8) (pa_cons (pe_callC C_law_take (hr.mono (by decide)) rfl pass0 (pa_cons (pv 2) (pa_cons (pv 3) pa_nil))) pa_nil)))))
      (Evl.pss_cut (ps_if (pt_cmpR (op_inK K) (pv 8) (pe_lst (pa_cons pe_str (pa_cons pe_str pa_nil))) (by rfl)) (pss_one (ps_set (i := 9) sc_law_grammar.nd rfl (Or.inl rfl) (pe_tup (pa_cons (pv 7) (pa_cons (pv 8) (pa_cons (pe_callC C_law_pick (hr.mono (by decide)) rfl pass0 (pa_cons (pv 2) (pa_cons (pv 4) pa_nil))) pa_nil)))))) (pss_one (ps_if (pt_cmpR (op_inK K) (pv 8) (pe_lst (pa_cons pe_str (pa_cons pe_str (pa_cons pe_str pa_nil)))) (by rfl)) (pss_one (ps_set (i := 9) sc_law_grammar.nd rfl (Or.inl rfl) (pe_op (op_addK K) (pv 9) (pe_tup (pa_cons (pe_callC C_law_take (hr.mono (by decide)) rfl pass0 (pa_cons (pv 2) (pa_cons (pv 3) pa_nil))) pa_nil))))) pss_nil)))
      (pss_one (ps_if (pt_cmpR op_isN (pe_callC C_law_back_kind (hr.mono (by decide)) rfl pass0 (pa_cons (pe_callC C_law_unary (hr.mono (by decide)) rfl pass0 (pa_cons (pe_op (op_addK K) (pv 5) (pe_lst (pa_cons (pv 9) pa_nil))) pa_nil)) (pa_cons (pv 3) pa_nil))) pe_non (nomark _)) (pss_one (ps_expr (pe_bm PySem.F.plainAttrs_list PySem.F.slot_list_append PySem.F.type_list_append mt_append (pv 5) (pa_cons (pv 9) pa_nil)))) pss_nil)))))))
      (Evl.pss_cut (ps_if (pt_cmpR op_gt (pe_callC C_law_take (hr.mono (by decide)) rfl pass0 (pa_cons (pv 2) (pa_cons pe_int pa_nil))) pe_int (nomark _)) (pss_one (ps_for PassesOwn.never rfl (pi_range1 rfl T.m_range (pa_cons (pv 3) pa_nil)) (pg_name (i := 7) sc_law_grammar.nd rfl (Or.inr rfl)) (pss_one (ps_if (PW.pt (pw_and (pt_cmpR op_lt (pe_callB (call_lenK K) (by rfl) T.m_len bt_len (pa_cons (pv 5) pa_nil)) (pv 1) (nomark _)) (pw_and1 (pt_cmpR (op_eqDK K hu64) (pe_lc (own := [("rule", 9)]) rfl sc_law_grammar.nd (pi_seqK K (pv 5)) (blkOk_by (own := [("rule", 9)]) (N := N_law_grammar) (sc := defScope s_law_grammar) (by decide +kernel)) (fun _ _ _ _ _ => pg_name (i := 9) sc_law_grammar.nd rfl (Or.inl rfl)) (fun _ _ _ _ _ => (pts_one (PW.pt (pw_and (pt_cmpR (op_eqDK K hu64) (pe_ix (ix_seqK K) (pv 9) pe_int (fun _ _ => rfl)) (pv 7) (nomark _)) (pw_and1 (pt_cmpR (op_inK K) (pe_ix (ix_seqK K) (pv 9) pe_int (fun _ _ => rfl)) (pe_lst (pa_cons pe_str (pa_cons pe_str pa_nil))) (by rfl))))))) (fun _ _ _ _ _ => (pv 9))) (pe_lst pa_nil) (nomark _))))) (pss_one (ps_expr (pe_bm PySem.F.plainAttrs_list PySem.F.slot_list_append PySem.F.type_list_append mt_append (pv 5) (pa_cons (pe_tup (pa_cons (pv 7) (pa_cons (pe_callC C_law_pick (hr.mono (by decide)) rfl pass0 (pa_cons (pv 2) (pa_cons (pe_lst (pa_cons pe_str (pa_cons pe_str pa_nil))) pa_nil))) (pa_cons (pe_callC C_law_pick (hr.mono (by decide)) rfl pass0 (pa_cons (pv 2) (pa_cons (pv 4) pa_nil))) pa_nil)))) pa_nil)))) pss_nil)))) pss_nil)
      (Evl.pss_cut (ps_if (pt_cmpR (op_eqDK K hu64) (pv 5) (pe_lst pa_nil) (nomark _)) (pss_one (ps_set (i := 5) sc_law_grammar.nd rfl (Or.inl rfl) (pe_lst (pa_cons (pe_tup (pa_cons pe_int (pa_cons pe_str (pa_cons pe_str pa_nil)))) pa_nil)))) pss_nil)
      (pss_one (ps_ret (pe_tup (pa_cons (pv 3) (pa_cons (pe_callTy call_tuple_of (by rfl) T.m_tuple bt_tuple (pa_cons (pe_callC C_law_shuffled (hr.mono (by decide)) rfl pass0 (pa_cons (pv 2) (pa_cons (pv 5) pa_nil))) pa_nil)) pa_nil)))))))))))), ?_⟩
    refine ⟨.ref a, rfl, a, 0, ns, B, rfl, e, hS, hl, by decide, by decide, fun p B1 H1 hp s1 k1 => ?_⟩
    have a1 : At (Fm.box p) B1 H1 B1 H1 := At.start k1
    refine qv_asg (P := fun v _ => ∃ n : Nat, v = .int (n : Nat) ∧ 1 ≤ n ∧ n ≤ 8) a1 ((ev_pick (d := .list [.int 1, .int 2, .int 2, .int 3, .int 3, .int 4, .int 6, .int 8]) rfl (ed_lst (eds_cons ed_int (eds_cons ed_int (eds_cons ed_int (eds_cons ed_int (eds_cons ed_int (eds_cons ed_int (eds_cons ed_int (eds_cons ed_int eds_nil))))))))) (.inl rfl) (fun z => nomatch z) (by show 8 < 1073741824; decide)).imp fun v B1 _ ⟨x, hx, hv⟩ => by
      simp only [List.mem_cons, List.mem_nil_iff, or_false] at hx
      rcases hx with rfl | rfl | rfl | rfl | rfl | rfl | rfl | rfl
      · exact ⟨1, dd_int hv, by decide, by decide⟩
      · exact ⟨2, dd_int hv, by decide, by decide⟩
      · exact ⟨2, dd_int hv, by decide, by decide⟩
      · exact ⟨3, dd_int hv, by decide, by decide⟩
      · exact ⟨3, dd_int hv, by decide, by decide⟩
      · exact ⟨4, dd_int hv, by decide, by decide⟩
      · exact ⟨6, dd_int hv, by decide, by decide⟩
      · exact ⟨8, dd_int hv, by decide, by decide⟩) fun vn B2 H2 e2 a2 ⟨n, hn, n1, n8⟩ => ?_
    subst hn
    refine qv_asg (P := fun v B => ∃ ws : List Str, Dd K B v (.list (ws.map .str)) ∧ ws ≠ [] ∧ ws.length ≤ 3 ∧ ∀ u ∈ ws, u ∈ W4) a2 ((ev_pick (d := .list [.list ((["a"] : List Str).map .str), .list ((["a", "ab"] : List Str).map .str), .list ((["a", "ab", "b"] : List Str).map .str), .list ((["b", "aab"] : List Str).map .str)]) rfl (ed_lst (eds_cons (ed_lst (eds_cons ed_str eds_nil)) (eds_cons (ed_lst (eds_cons ed_str (eds_cons ed_str eds_nil))) (eds_cons (ed_lst (eds_cons ed_str (eds_cons ed_str (eds_cons ed_str eds_nil)))) (eds_cons (ed_lst (eds_cons ed_str (eds_cons ed_str eds_nil))) eds_nil))))) (.inl rfl) (fun z => nomatch z) (by show 4 < 1073741824; decide)).imp fun v B1 _ ⟨x, hx, hv⟩ => by
      simp only [List.mem_cons, List.mem_nil_iff, or_false] at hx
      rcases hx with rfl | rfl | rfl | rfl
      · exact ⟨_, hv, fun z => (nomatch z), by decide, by decide +kernel⟩
      · exact ⟨_, hv, fun z => (nomatch z), by decide, by decide +kernel⟩
      · exact ⟨_, hv, fun z => (nomatch z), by decide, by decide +kernel⟩
      · exact ⟨_, hv, fun z => (nomatch z), by decide, by decide +kernel⟩) fun vw B3 H3 e3 a3 ⟨ws, hw, hw0, hw3, hwm⟩ => ?_
    refine ⟨Nat.zero_le _, fun fa hfa => ?_⟩
    have k3 := a3.j
    have nfp : fa ≠ p := fun z => ((Fm.box p).lv H3 p k3.j rfl).ne (z ▸ hfa)
    have pickw : ∀ (σ : L2.St) B5, σ[2]? = some (some (V.ref p)) → σ[4]? = some (some vw) → Ex B3 B5 → EV (Fm.box p) (tCall (spPick K) [] E0 (tCons (tVar 2) (tCons (tVar 4) tNil))) σ B5 (fun v B => ∃ d, Dd K B v d ∧ ∃ u, d = .str u ∧ u ∈ W4) := fun σ B5 h2 h4 e5 => (ev_pick (d := .list (ws.map .str)) h2 (ed_var h4 (hw.up e5)) (.inl rfl) (fun z => hw0 (List.map_eq_nil_iff.mp z)) (by rw [List.length_map]; omega)).imp fun v B1 _ ⟨x, hx, hv⟩ => by
      obtain ⟨u, hu, rfl⟩ := List.mem_map.mp hx
      exact ⟨_, hv, u, rfl, hwm u hu⟩
    have takek : ∀ (σ : L2.St) B5, σ[2]? = some (some (V.ref p)) → σ[3]? = some (some (V.int (n : Nat))) → EV (Fm.box p) (tCall (spTake K) [] E0 (tCons (tVar 2) (tCons (tVar 3) tNil))) σ B5 (fun v B => ∃ d, Dd K B v d ∧ ∃ c : Int, d = .int c ∧ 0 ≤ c ∧ c < (n : Nat)) := fun σ B5 h2 h3 => (ev_take h2 (ed_var h3 (.int (n : Nat))) (by omega) (by omega)).imp fun v B1 _ ⟨c, hc, c0, c1⟩ => ⟨.int c, by rw [hc]; exact .int c, c, rfl, c0, c1⟩
    obtain ⟨B', acc, s', k', hb, hd, ha⟩ := cq_start (K := K) k3 hfa
    have evr : EV (Fm.box p) (tOp (rAddA K) (tC (.int 2)) (tCall (spTake K) [] E0 (tCons (tVar 2) (tCons (tOp (rI0 fun i j => .int (i - j)) (tVar 1) (tC (.int 1))) tNil)))) [some (.ref a), some (.int 9), some (.ref p), some (.int (n : Nat)), some vw, some (.ref fa), none, none, none, none] B' (fun v _ => ∃ m : Int, v = .int m ∧ 0 ≤ m ∧ m ≤ 9) := ev_op (P := DD K (.int 2)) (P' := fun v _ => ∃ m : Int, v = .int m ∧ 0 ≤ m ∧ m < 8) ed_int (ev_take (m := 8) rfl (ed_op (ed_var rfl (.int 9)) ed_int rd_sub) (by decide) (by decide)) upc_dd fun B6 _ H6 u v j6 hu ⟨m, hv, m0, m1⟩ Q q => .inl ⟨2, m, dd_int hu, hv, q _ B6 H6 (Step.refl j6.e) j6 ⟨2 + m, rfl, by omega, by omega⟩⟩
    refine evr B' (Ex.refl B') _ k' _ fun vm B4 H4 s4 k4 ⟨m, hm, m0, m9⟩ => ?_
    subst hm
    refine ⟨m, rfl, by omega, by omega, for_range (lo := 0) (n := m.toNat) (fun i σ' H' => (∃ o6 o7 o8 o9, σ' = [some (.ref a), some (.int 9), some (.ref p), some (.int (n : Nat)), some vw, some (.ref fa), o6, o7, o8, o9]) ∧ ∃ rs, rs.length ≤ i ∧ GR n rs ∧ Cq (Fm.box p) K B3 H3 fa rs H') ⟨⟨_, _, _, _, rfl⟩, [], Nat.le_refl _, ⟨by decide, fun r h => (nomatch h), backK_none fun k hk => ?_⟩, cq_pass hfa k3 s' hb hd ha s4 k4⟩ (fun i σ' H' hi ⟨⟨o6, o7, o8, o9, ho⟩, rs, hri, G, B', acc, s', k', hb, hd, ha⟩ => ?_) (fun σ' H' ⟨⟨o6, o7, o8, o9, ho⟩, rs, hri, G, c⟩ => ?_)⟩
    · cases hh : (Gm.turns (edges []) (k : Int) (n + 1)).contains (k : Int) with
      | false => rfl
      | true =>
        have h1 := Gm.turns_sound _ _ (List.contains_iff_mem.mp hh)
        cases h1 with
        | one e => cases e
        | more _ e => cases e
    · subst ho
      have hlt : rs.length < 9 := by omega
      obtain ⟨kx, dx⟩ := cq_open hfa k3 k' hb hd ha (by omega)
      have eB3 : Ex B3 (upd B' fa (.lst acc)) := s'.bb.trans (Ex.new hb)
      have aX : At (Fm.box p) (upd B' fa (.lst acc)) H' (upd B' fa (.lst acc)) H' := At.start kx
      refine qv_asg aX (takek _ _ rfl rfl) fun vk B5 H5 e5 a5 hh5 => ?_
      obtain ⟨_, hk, k, rfl, k0, k1'⟩ := hh5
      obtain rfl := dd_int hk
      refine qv_asg (P := fun v _ => ∃ wd : Str, v = .str wd ∧ wd ∈ L8) a5 ((ev_pick (d := .list ((["left", "right", "wrap", "wrap", "ahead", "behind", "left", "right", "same", "first", "last"] : List Str).map .str)) rfl (ed_lst (eds_cons ed_str (eds_cons ed_str (eds_cons ed_str (eds_cons ed_str (eds_cons ed_str (eds_cons ed_str (eds_cons ed_str (eds_cons ed_str (eds_cons ed_str (eds_cons ed_str (eds_cons ed_str eds_nil)))))))))))) (.inl rfl) (fun z => nomatch z) (by show 11 < 1073741824; decide)).imp fun v B1 _ ⟨x, hx, hv⟩ => by
        obtain ⟨u, hu, rfl⟩ := List.mem_map.mp hx
        exact ⟨u, (dd_str hv).1, (by decide +kernel : ∀ u ∈ (["left", "right", "wrap", "wrap", "ahead", "behind", "left", "right", "same", "first", "last"] : List Str), u ∈ L8) u hu⟩) fun vwd B6 H6 e6 a6 ⟨wd, hwd, h8⟩ => ?_
      subst hwd
      have l8 := l8_ok wd h8
      have wl : wd.length ≤ sizeLine := by rw [sizeLine_eq]; have := l8.2.1; omega
      have edk : ∀ (σ : L2.St) B7, σ[7]? = some (some (V.int k)) → EV (Fm.box p) (tVar 7) σ B7 (fun v B => ∃ d, Dd K B v d ∧ d = .int k) := fun σ B7 h7 => ev_any (ed_var h7 (.int k))
      have edw : ∀ (σ : L2.St) B7, σ[8]? = some (some (V.str wd)) → EV (Fm.box p) (tVar 8) σ B7 (fun v B => ∃ d, Dd K B v d ∧ d = .str wd) := fun σ B7 h7 => ev_any (ed_var h7 (.str wd wl))
      refine qv_asg a6 (ev_tup3 (edk _ _ rfl) (edw _ _ rfl) (takek _ _ rfl rfl)) fun vr B7 H7 e7 a7 hh7 => ?_
      obtain ⟨_, _, _, hvr, rfl, rfl, c, rfl, c0, c1⟩ := hh7
      refine ⟨fun σ' H'' => ∃ B8 r vr, σ' = [some (.ref a), some (.int 9), some (.ref p), some (.int (n : Nat)), some vw, some (.ref fa), some (.int (0 + (i : Nat))), some (.int k), some (.str wd), some vr] ∧ At (Fm.box p) (upd B' fa (.lst acc)) H' B8 H'' ∧ Dd K B8 vr r ∧ RG n r, ?_, ?_⟩
      · refine sv_if (b := inS wd WSH) a7 (et_cmp (inSL (ed_var rfl (.str wd wl)) pyStr2)) (fun hb1 B8 H8 e8 a8 => ?_) (fun hb1 B8 H8 e8 a8 => ?_)
        · refine sv_asg a8 (ev_tup3 (edk _ _ rfl) (edw _ _ rfl) (pickw _ _ rfl rfl ((((eB3.trans e5).trans e6).trans e7).trans e8))) fun vr2 B9 H9 e9 a9 hh9 => ?_
          obtain ⟨_, _, _, hvr2, rfl, rfl, u, rfl, hu⟩ := hh9
          exact ⟨B9, _, vr2, rfl, a9, hvr2, rg_word n8 k0 k1' (inS_iff.mp hb1) h8 hu⟩
        · refine sv_if (b := inS wd TSH) a8 (et_cmp (inSL (ed_var rfl (.str wd wl)) pyStr)) (fun hb2 B9 H9 e9 a9 => ?_) (fun hb2 B9 H9 e9 a9 => ?_)
          · refine sv_asg (P := fun v B => ∃ d : Int, Dd K B v (.tuple [.int k, .str wd, .int c, .int d]) ∧ 0 ≤ d ∧ d < (n : Nat)) a9 (ev_op (P := DD K (.tuple [.int k, .str wd, .int c])) (ed_var rfl ((hvr.up e8).up e9)) (ev_tup1 (takek _ _ rfl rfl)) upc_dd ?_) fun vr2 B10 H10 e10 a10 ⟨d, hvr2, d0, d1⟩ => ?_
            · intro B10 e10 H10 u w10 j10 hu hhx Q q
              obtain ⟨_, hx, d, rfl, d0, d1⟩ := hhx
              exact rd_addT (F := Fm.box p) (K := K) (B := B10) (by show 4 ≤ 16777216; decide) B10 (Ex.refl B10) H10 u w10 j10 hu hx Q fun z B11 H11 s11 j11 g11 => q z B11 H11 s11 j11 ⟨d, g11, d0, d1⟩
            · exact ⟨B10, _, vr2, rfl, a10, hvr2, rg_two n8 k0 k1' (inS_iff.mp hb2) h8 c0 c1 d0 d1⟩
          · refine ⟨B9, _, vr, rfl, a9, (hvr.up e8).up e9, rg_one n8 k0 k1' ?_ h8 c0 c1⟩
            rcases l8.2.2.1 with h | h | h
            · rw [inS_iff.mpr h] at hb1
              cases hb1
            · rw [inS_iff.mpr h] at hb2
              cases hb2
            · exact h
      · rintro σ' H'' ⟨B8, r, vr, rfl, a8, hr8, hRG⟩
        have hall : ∀ x ∈ rs ++ [r], ruleD x n = true := fun x hx => by
          rcases List.mem_append.mp hx with h | h
          · exact G.ruleD x h
          · rw [List.mem_singleton.mp h]
            exact hRG.1
        have hlen : (rs ++ [r]).length ≤ 100 := by rw [List.length_append]; show rs.length + 1 ≤ 100; omega
        refine sv_if (b := isNon (optD (backK (edges (rs ++ [r])) n))) a8 (et_cmp (ed_op (ed_F (eds_cons (ed_F (z := .list ((edges (rs ++ [r])).map toD)) (eds_cons (ed_op (ed_var rfl (dx.up a8.st.bb)) (ed_lst (eds_cons (ed_var rfl hr8) eds_nil)) (rd_addL (by show rs.length + 1 ≤ 16777216; omega))) eds_nil) ⟨_, rs ++ [r], n, rfl, .inl rfl, hlen, hall⟩ rfl) (eds_cons (ed_var rfl (.int (n : Nat))) eds_nil)) ⟨edges (rs ++ [r]), n, rfl, Nat.le_trans (edges_len _) hlen, by omega⟩ (by show optD (backK (((edges (rs ++ [r])).map toD).map ofD) ((n : Int)).toNat) = _; rw [ofD_toD]; rfl)) ed_non rd_isN)) (fun hbn B9 H9 e9 a9 => ?_) (fun hbn B9 H9 e9 a9 => ?_)
        · obtain ⟨s10, k10, e10, hd10⟩ := cq_close hfa k3 s' hb hd a9.st a9.j
          obtain ⟨xs, rfl, hfl⟩ := hRG.flat
          have hB9 : B9 fa = some (.lst acc) := a9.st.bb _ _ upd_same
          refine ⟨.ref fa, rfl, .inl ⟨rfl, _, sq_of hd10⟩, vr, rfl, fa, acc, vr, rfl, rfl, hd10, by rw [ha.len, sizeLine_eq]; omega, ?_⟩
          refine ⟨⟨_, _, _, _, rfl⟩, rs ++ [.tuple xs], by rw [List.length_append]; show rs.length + 1 ≤ i + 1; omega, G.snoc1 hlt hRG ?_, cq_set hfa k3 s10 k10 del1_same ((ha.up e10).snoc (tup_del (hr8.up e9) hB9 hfl))⟩
          cases hh : backK (edges (rs ++ [.tuple xs])) n with
          | none => rfl
          | some b => rw [hh] at hbn; cases hbn
        · obtain ⟨s10, k10, e10, hd10⟩ := cq_close hfa k3 s' hb hd a9.st a9.j
          exact ⟨⟨_, _, _, _, rfl⟩, rs, by omega, G, _, acc, s10, k10, del1_same, hd10, ha.up e10⟩
    subst ho
    refine ⟨fun σ' H'' => (∃ o6 o7 o8 o9, σ' = [some (.ref a), some (.int 9), some (.ref p), some (.int (n : Nat)), some vw, some (.ref fa), o6, o7, o8, o9]) ∧ ∃ rs, GR n rs ∧ Cq (Fm.box p) K B3 H3 fa rs H'', ?_, ?_⟩
    · obtain ⟨B', acc, s', k', hb, hd, ha⟩ := c
      refine sv_ifB (At.start k') (eb_cmp (P := fun v _ => ∃ b, v = .bl b) (ev_op (P' := DD K (.int 0)) (ev_take (m := 6) rfl ed_int (by decide) (by decide)) ed_int (fun _ _ _ _ h => h) ?_) fun v B h => h) (fun _ B5 H5 e5 a5 => ?_) (fun B5 H5 e5 a5 => ?_)
      · intro B6 _ H6 u v j6 ⟨k, hu, _⟩ hv Q q
        exact ⟨k, 0, hu, dd_int hv, q _ B6 H6 (Step.refl j6.e) j6 ⟨_, rfl⟩⟩
      · refine ⟨.int (n : Nat), rfl, (n : Nat), rfl, by omega, by omega, for_range (lo := 0) (n := ((n : Nat) : Int).toNat) (fun i σ' H' => (∃ o6 o7 o8 o9, σ' = [some (.ref a), some (.int 9), some (.ref p), some (.int (n : Nat)), some vw, some (.ref fa), o6, o7, o8, o9]) ∧ ∃ rs, GR n rs ∧ Cq (Fm.box p) K B3 H3 fa rs H') ⟨⟨_, _, _, _, rfl⟩, rs, G, cq_pass hfa k3 s' hb hd ha a5.st a5.j⟩ (fun i σ' H' hi ⟨⟨o6, o7, o8, o9, ho⟩, rs, G, B', acc, s', k', hb, hd, ha⟩ => ?_) (fun σ' H' ⟨⟨o6, o7, o8, o9, ho⟩, rs, G, c⟩ => ⟨⟨o6, o7, o8, o9, ho⟩, rs, G, c⟩)⟩
        subst ho
        have hlen9 := G.len
        have hi' : i < n := by omega
        obtain ⟨kx, dx⟩ := cq_open hfa k3 k' hb hd ha (by omega)
        have eB3 : Ex B3 (upd B' fa (.lst acc)) := s'.bb.trans (Ex.new hb)
        have aX : At (Fm.box p) (upd B' fa (.lst acc)) H' (upd B' fa (.lst acc)) H' := At.start kx
        refine sv_if (b := decide (((rs.length : Nat) : Int) < 9) && PyData.eqv (.list ((rs.filter (pK (0 + (i : Nat)))).map fun d => d)) (.list [])) aX (et_and (et_cmp (K := K) (ed_op (ev_cb (eds_cons (ed_var rfl dx) eds_nil) (rc_len (x := .list rs) rfl)) (ed_var rfl (.int 9)) rd_lt)) fun _ => et_cmp (ed_op (ed_lcD (pK (0 + (i : Nat))) (fun d => d) (ev_seqL (ed_var rfl dx)) (by omega) (fun _ => rfl) (fun d v B5 hm _ hdv => ?_) (fun d v B5 _ _ _ hdv => ed_var rfl hdv)) (ed_lst eds_nil) (rd_eqD (Sm.sh (sm_filter (n := 2) fun d hd => smD_sm 1 d (G.ok d hd).2)) rfl))) (fun hbt B6 H6 e6 a6 => ?_) (fun hbt B6 H6 e6 a6 => ?_)
        · obtain ⟨x, sh, p0, ps, rfl, _⟩ := ruleD_is (G.ruleD d hm)
          exact et_and (et_cmp (K := K) (ed_op (ed_op (ed_var rfl hdv) ed_int (rd_ixT at3_0)) (ed_var rfl (.int _)) (rd_eqD rfl rfl))) fun _ => et_cmp (inSL (ed_op (ed_var rfl hdv) ed_int (rd_ixT at3_1)) pyStr2)
        · rw [Bool.and_eq_true, decide_eq_true_eq] at hbt
          have hlt : rs.length < 9 := by omega
          have hd6 : H6 fa = some (.lst acc) := a6.st.keep fa _ nfp hd
          refine ⟨.ref fa, rfl, .inl ⟨rfl, _, sq_of hd6⟩, ?_⟩
          have evt : EV (Fm.box p) (tTup (tCons (tVar 7) (tCons (tCall (spPick K) [] E0 (tCons (tVar 2) (tCons (tLst (tCons (tC (.str "left")) (tCons (tC (.str "right")) tNil))) tNil))) (tCons (tCall (spPick K) [] E0 (tCons (tVar 2) (tCons (tVar 4) tNil))) tNil)))) [some (.ref a), some (.int 9), some (.ref p), some (.int (n : Nat)), some vw, some (.ref fa), o6, some (.int (0 + (i : Nat))), o8, o9] B6 (fun v B => ∃ x y z, Dd K B v (.tuple [x, y, z]) ∧ x = .int (0 + (i : Nat)) ∧ (∃ wd, y = .str wd ∧ wd ∈ WSH) ∧ ∃ u, z = .str u ∧ u ∈ W4) :=
            ev_tup3 (ev_any (ed_var rfl (.int _))) ((ev_pick (d := .list (WSH.map .str)) rfl pyStr2 (.inl rfl) (fun z => nomatch z) (by show 2 < 1073741824; decide)).imp fun v B1 _ ⟨x, hx, hv⟩ => by
              obtain ⟨u, hu, rfl⟩ := List.mem_map.mp hx
              exact ⟨_, hv, u, rfl, hu⟩) (pickw _ _ rfl rfl (eB3.trans e6))
          refine evt B6 (Ex.refl B6) H6 a6.j _ fun vr B7 H7 s7 k7 hh8 => ?_
          obtain ⟨_, _, _, hvr, rfl, ⟨wd, rfl, hwd⟩, u, rfl, hu⟩ := hh8
          have a7 := a6.next s7 k7
          obtain ⟨s10, k10, e10, hd10⟩ := cq_close hfa k3 s' hb hd a7.st a7.j
          have h8 : wd ∈ L8 := (by decide +kernel : ∀ u ∈ WSH, u ∈ L8) wd hwd
          have hRG : RG n (.tuple [.int (0 + (i : Nat)), .str wd, .str u]) := rg_word n8 (by omega) (by omega) hwd h8 hu
          have hno : isOne (.tuple [.int (0 + (i : Nat)), .str wd, .str u]) = false := (by decide +kernel : ∀ u ∈ WSH, inS u OSH = false) wd hwd
          have hB7 : B7 fa = some (.lst acc) := a7.st.bb _ _ upd_same
          refine ⟨fa, acc, vr, rfl, rfl, hd10, by rw [ha.len, sizeLine_eq]; omega, ?_⟩
          exact ⟨⟨_, _, _, _, rfl⟩, _, G.snoc0 hlt hRG hno, cq_set hfa k3 s10 k10 del1_same ((ha.up e10).snoc (tup_del hvr hB7 rfl))⟩
        · obtain ⟨s10, k10, e10, hd10⟩ := cq_close hfa k3 s' hb hd a6.st a6.j
          exact ⟨⟨_, _, _, _, rfl⟩, rs, G, _, acc, s10, k10, del1_same, hd10, ha.up e10⟩
      · exact ⟨⟨_, _, _, _, rfl⟩, rs, G, cq_pass hfa k3 s' hb hd ha a5.st a5.j⟩
    rintro σ' H5 ⟨⟨o6, o7, o8, o9, rfl⟩, rs, G, c⟩
    have hlen9 := G.len
    obtain ⟨B5, s5, k5, g5⟩ := cq_done k3 hfa (by omega) c
    have a5 : At (Fm.box p) B1 H1 B5 H5 := a3.next s5 k5
    refine ⟨fun σ' H'' => ∃ B6 vl rs, σ' = [some (.ref a), some (.int 9), some (.ref p), some (.int (n : Nat)), some vw, some vl, o6, o7, o8, o9] ∧ At (Fm.box p) B1 H1 B6 H'' ∧ Dd K B6 vl (.list rs) ∧ rs ≠ [] ∧ GR n rs, ?_, ?_⟩
    · refine sv_if (b := PyData.eqv (.list rs) (.list [])) a5 (et_cmp (ed_op (ed_var rfl g5) (ed_lst eds_nil) (rd_eqD (Sm.sh (sm_lst (n := 2) fun d hd => smD_sm 1 d (G.ok d hd).2)) rfl))) (fun hbt B6 H6 e6 a6 => ?_) (fun hbt B6 H6 e6 a6 => ?_)
      · refine sv_asg (P := DD K (.list [.tuple [.int 0, .str "left", .str "a"]])) a6 (ed_lst (eds_cons (ed_tup (eds_cons ed_int (eds_cons ed_str (eds_cons ed_str eds_nil)))) eds_nil)) fun vl B7 H7 e7 a7 h7 => ?_
        refine ⟨B7, vl, _, rfl, a7, h7, fun z => (nomatch z), ⟨by decide, fun r hr => ?_, ?_⟩⟩
        · rw [List.mem_singleton.mp hr]
          exact rg_word n8 (by decide) (by omega) (by decide +kernel) (by decide +kernel) (by decide +kernel)
        · have hrs : rs = [] := by
            rw [eqv_nil] at hbt
            exact List.isEmpty_iff.mp hbt
          rw [hrs] at G
          exact G.bk
      · refine ⟨B6, _, rs, rfl, a6, g5.up e6, fun z => ?_, G⟩
        rw [eqv_nil, z] at hbt
        cases hbt
    · rintro σ' H6 ⟨B6, vl, rs, rfl, a6, g6, hne, G6⟩
      refine sv_ret (P := fun v B => ∃ rs', Dd K B v (.tuple [.int (n : Nat), .tuple rs']) ∧ rs' ≠ [] ∧ GR n rs') a6 ?_ fun v B7 H7 e7 a7 ⟨rs', h7, hne', G7⟩ => q v B7 H7 n rs' (step_box hp s1 a7.st) h7 n1 n8 hne' G7
      intro B7 e7 H7 k7 Q7 q7
      refine ⟨.int (n : Nat), rfl, .ref p, rfl, vl, rfl, p, vl, B7, rs, rfl, k7, g6.up e7, by have := G6.len; omega, fun v8 B8 H8 rs8 s8 k8 h8 hp8 => ?_⟩
      obtain ⟨l, ys, rfl, g1, g2, g3⟩ := dd_lst h8
      refine ⟨l, ys, rfl, .inl ⟨sq_of (k8.e _ _ g1), fun t ht => ?_⟩⟩
      refine ⟨by show 2 ≤ sizeLine; decide, fun u hu => ?_⟩
      have s9 : Step (fun a => a = p) B8 H8 _ _ := Step.alloc (o := .tup ys) k8.e ht
      have k9 := k8.alloc (o := .tup ys) ht
      have bt : B8 t = none := fresh_back k8.e ht
      have bu := fresh_back k9.e hu
      refine q7 (.ref u) _ _ ((s8.trans s9).trans (Step.alloc k9.e hu)) (k9.alloc hu) ⟨rs8, .tup (ta_of upd_same) (by show 2 ≤ sizeLine; decide) (.cons (.int _) (.cons (Dd.up (.tup (ta_of upd_same) g2 (g3.up (Ex.new bt))) (Ex.new bu)) .nil)), fun z => ?_, G6.perm hp8⟩
      rw [z] at hp8
      exact hne (List.Perm.nil_eq hp8).symm
end
end K33

namespace K33
open PySem PySem.Spec PyProof.Rows L2 Evl Ex Dx StX
open PySem.PyData (strOk)
section
variable {P : Program} {w : World} {K : PySem.W.Frag} {mg : Str → Option Value} {base : Heap} {f : Addr} {fd : FuncData}


/-! ### the parts of a rule -/
def numI : PyData → Int
  | .int i => i
  | _ => 0
def prtL (r : PyData) : List Int := match r with
  | .tuple (_ :: .str how :: ps) => if inS how WSH = true then [] else ps.map numI
  | _ => []
def hdI (r : PyData) : Int := match r with
  | .tuple (.int a :: _) => a
  | _ => 0
def RF (n : Nat) (r : PyData) : Prop := ∃ (a : Int) (how : Str) (p : PyData) (ps : List PyData), r = .tuple (.int a :: .str how :: p :: ps) ∧ (0 ≤ a ∧ a < (n : Nat)) ∧ ((inS how WSH = true ∧ (∃ s, p = .str s ∧ SeqAt.shaped (.str s) = true) ∧ ps = [] ∧ prtL r = []) ∨ (inS how WSH = false ∧ p :: ps = (prtL r).map .int ∧ 1 ≤ (prtL r).length ∧ (prtL r).length ≤ 2 ∧ ∀ q ∈ prtL r, 0 ≤ q ∧ q < (n : Nat)))
theorem sh_str {s : Str} (h : strOk s = true) : SeqAt.shaped (.str s) = true := (sm_str (n := 0) h).sh
theorem atom_ok {s : Str} (h : atomD (.str s) = true) : strOk s = true := by
  have : s ∈ L12 := List.contains_iff_mem.mp h
  exact (strF s this).1
theorem wsh_not {s : Str} : (∃ L, L = OSH ∨ L = TSH ∧ True) → True := fun _ => trivial
theorem rg_rf {n : Nat} {r : PyData} (h : RG n r) : RF n r := by
  obtain ⟨a, s, p, ps, rfl, a0, a1, ht⟩ := ruleD_is h.1
  refine ⟨a, s, p, ps, rfl, ⟨a0, a1⟩, ?_⟩
  unfold tailD at ht
  split at ht
  · rename_i hw
    rw [Bool.and_eq_true, decide_eq_true_eq] at ht
    obtain ⟨hl, hp⟩ := ht
    have e : ps = [] := List.eq_nil_of_length_eq_zero (by simpa using hl)
    subst e
    have hp' : wordD p = true := hp
    have hpr : prtL (.tuple [.int a, .str s, p]) = [] := by
      show (if inS s WSH = true then [] else [p].map numI) = []
      rw [if_pos hw]
    cases p with
    | str u =>
      refine .inl ⟨hw, ⟨u, rfl, ?_⟩, rfl, hpr⟩
      rcases smD_is h.2 with h1 | ⟨ds, e, _, h2⟩
      · cases h1
      · cases e
        have := h2 (.str u) (by simp)
        exact sh_str (atom_ok this)
    | _ => cases hp'
  · rename_i hw
    have hw' : inS s WSH = false := by simpa using hw
    split at ht
    · rename_i ho
      rw [Bool.and_eq_true, decide_eq_true_eq] at ht
      obtain ⟨hl, hp⟩ := ht
      have e : ps = [] := List.eq_nil_of_length_eq_zero (by simpa using hl)
      subst e
      have hp' : inB p 0 ((n : Nat) - 1) = true := hp
      obtain ⟨c, rfl, c0, c1⟩ := inB_is hp'
      have hpr : prtL (.tuple [.int a, .str s, .int c]) = [c] := by
        show (if inS s WSH = true then [] else [c]) = [c]
        rw [if_neg hw]
      refine .inr ⟨hw', by rw [hpr]; rfl, by rw [hpr]; exact Nat.le_of_ble_eq_true rfl, by rw [hpr]; exact Nat.le_of_ble_eq_true rfl, fun q hq => ?_⟩
      rw [hpr] at hq
      rw [List.mem_singleton.mp hq]
      omega
    · rw [Bool.and_eq_true, Bool.and_eq_true, decide_eq_true_eq] at ht
      obtain ⟨hs, hl, hp⟩ := ht
      match ps, hl, hp with
      | [p2], hl, hp =>
        have h1 : (inB p 0 ((n : Nat) - 1) && (inB p2 0 ((n : Nat) - 1) && true)) = true := hp
        rw [Bool.and_eq_true, Bool.and_eq_true] at h1
        obtain ⟨c, rfl, c0, c1⟩ := inB_is h1.1
        obtain ⟨d, rfl, d0, d1⟩ := inB_is h1.2.1
        have hpr : prtL (.tuple [.int a, .str s, .int c, .int d]) = [c, d] := by
          show (if inS s WSH = true then [] else [c, d]) = [c, d]
          rw [if_neg hw]
        refine .inr ⟨hw', by rw [hpr]; rfl, by rw [hpr]; exact Nat.le_of_ble_eq_true rfl, by rw [hpr]; exact Nat.le_of_ble_eq_true rfl, fun q hq => ?_⟩
        rw [hpr] at hq
        simp only [List.mem_cons, List.not_mem_nil, or_false] at hq
        rcases hq with rfl | rfl <;> omega
theorem RF.parts {n : Nat} {r : PyData} (h : RF n r) : (prtL r).length ≤ 2 ∧ ∀ q ∈ prtL r, 0 ≤ q ∧ q < (n : Nat) := by
  obtain ⟨a, how, p, ps, rfl, _, h⟩ := h
  rcases h with ⟨_, _, _, hp⟩ | ⟨_, _, _, h2, h3⟩
  · rw [hp]
    exact ⟨by decide, fun q hq => nomatch hq⟩
  · exact ⟨h2, h3⟩
theorem RF.hd {n : Nat} {r : PyData} (h : RF n r) : 0 ≤ hdI r ∧ hdI r < (n : Nat) := by
  obtain ⟨a, how, p, ps, rfl, h1, _⟩ := h
  exact h1
theorem ed_hd {F : Fm} {σ : L2.St} {B : Hp} {i : Nat} {v : V} {r : PyData} {n : Nat} (hi : σ[i]? = some (some v)) (hv : Dd K B v r) (hr : RF n r) : ED F K (tOp (rIx K) (tVar i) (tC (.int 0))) σ B (.int (hdI r)) := by
  obtain ⟨a, how, p, ps, rfl, h1, _⟩ := hr
  exact ed_op (ed_var hi hv) ed_int (rd_ixT at3_0)
def fPts : List PyData → PyData
  | [r] => .tuple ((prtL r).map .int)
  | _ => .none
def preRF (ds : List PyData) : Prop := ∃ r n, ds = [r] ∧ RF n r
theorem ints_flat (S : List Int) : (S.map PyData.int).all flatD = true := flatI S

abbrev s_part_kinds : Stmt := topS 24
abbrev N_part_kinds : List Str := ["rule"]
theorem sc_part_kinds : FnScope N_part_kinds ["rule"] (defScope s_part_kinds) := ⟨rfl, rfl, rfl, by decide +kernel, rfl, by decide +kernel, by decide +kernel⟩
theorem ok_part_kinds (F : Fun K "part_kinds" "part_kinds" s_part_kinds f fd) (T : TC K mg) : FnOk P w K mg base CX0 1 f fd ["rule"] (spF K preRF fPts) := by
  refine F.ok sc_part_kinds (fun vs H Q E h => ?_) (fun cdv A outer s H vs Q E hr h => ?_)
  · obtain ⟨B, ds, e, hd, ⟨r, n, rfl, _⟩, q⟩ := h
    exact hd.len
  · obtain ⟨B, ds, e, hd, ⟨r, n, rfl, hr0⟩, q⟩ := h
    obtain ⟨v, rfl, hv⟩ := arg1 hd
    obtain ⟨WW, gW, hW⟩ := T.w_WORD.ex
    refine ⟨_, (pss_cons (ps_if (pt_cmpR (op_inK K) (pe_ix (ix_seqK K) (pv 0) pe_int (fun _ _ => rfl)) (pe_glob (v := .ref WW) rfl gW rfl) (by rfl)) (pss_one (ps_ret (pe_tup pa_nil))) pss_nil)
      (pss_one (ps_ret (pe_slice (sl_anyK K) (pv 0) (po_some pe_int) po_none)))), ?_⟩
    have a : At Fm.pure B H B H := At.start (Ok.any e)
    obtain ⟨x, how, p, ps, rfl, _, hc⟩ := hr0
    have i1 : ED Fm.pure K (tOp (rIx K) (tVar 0) (tC (.int 1))) [some v] B (.str how) := ed_op (ed_var rfl hv) ed_int (rd_ixT at3_1)
    rcases hc with ⟨hw, _, _, hp⟩ | ⟨hw, hp, _⟩
    · refine qv_when (b := true) a (et_is (et_cmp (inST i1 (ed_v (hW B)))) hw) (fun _ B1 H1 e1 a1 => ?_) (fun h => nomatch h)
      refine sv_ret (P := DD K (.tuple [])) a1 (ed_tup eds_nil) fun v1 B2 H2 e2 a2 h2 => q _ B2 H2 a2.st ?_
      show Dd K B2 v1 (.tuple ((prtL _).map .int))
      rw [hp]
      exact h2
    · refine qv_when (b := false) a (et_is (et_cmp (inST i1 (ed_v (hW B)))) hw) (fun h => nomatch h) (fun _ B1 H1 e1 a1 => ?_)
      refine sv_ret (P := DD K (.tuple (p :: ps))) a1 (ed_is (ed_slT (ed_var rfl (hv.up e1)) (eo_some (K := K) (ed_int (i := 2))) eo_none) (congrArg PyData.tuple cut2)) fun v1 B2 H2 e2 a2 h2 => q _ B2 H2 a2.st ?_
      show Dd K B2 v1 (.tuple ((prtL _).map .int))
      rw [← hp]
      exact h2

abbrev s_law_parts : Stmt := topS 57
abbrev N_law_parts : List Str := ["rule"]
theorem sc_law_parts : FnScope N_law_parts ["rule"] (defScope s_law_parts) := ⟨rfl, rfl, rfl, by decide +kernel, rfl, by decide +kernel, by decide +kernel⟩
theorem ok_law_parts (F : Fun K "_law_parts" "_law_parts" s_law_parts f fd) (T : TC K mg) : FnOk P w K mg base CX0 1 f fd ["rule"] (spF K preRF fPts) := by
  refine F.ok sc_law_parts (fun vs H Q E h => ?_) (fun cdv A outer s H vs Q E hr h => ?_)
  · obtain ⟨B, ds, e, hd, ⟨r, n, rfl, _⟩, q⟩ := h
    exact hd.len
  · obtain ⟨B, ds, e, hd, ⟨r, n, rfl, hr0⟩, q⟩ := h
    obtain ⟨v, rfl, hv⟩ := arg1 hd
    refine ⟨_, (pss_one (ps_ret (pe_ifExp (pt_cmpR (op_inK K) (pe_ix (ix_seqK K) (pv 0) pe_int (fun _ _ => rfl)) (pe_lst (pa_cons pe_str (pa_cons pe_str pa_nil))) (by rfl)) (pe_tup pa_nil) (pe_callTy (call_tuple_ofK K) (by rfl) T.m_tuple bt_tuple (pa_cons (pe_slice (sl_anyK K) (pv 0) (po_some pe_int) po_none) pa_nil))))), ?_⟩
    have a : At Fm.pure B H B H := At.start (Ok.any e)
    obtain ⟨x, how, p, ps, rfl, _, hc⟩ := hr0
    have i1 : ED Fm.pure K (tOp (rIx K) (tVar 0) (tC (.int 1))) [some v] B (.str how) := ed_op (ed_var rfl hv) ed_int (rd_ixT at3_1)
    refine sv_ret (P := DD K (.tuple ((prtL (.tuple (.int x :: .str how :: p :: ps))).map .int))) a (ev_if (b := inS how WSH) (et_cmp (inSL i1 pyStr2)) (fun hb => ?_) (fun hb => ?_)) fun v1 B2 H2 e2 a2 h2 => q _ B2 H2 a2.st h2
    · rcases hc with ⟨hw, _, _, hp⟩ | ⟨hw, _⟩
      · rw [hp]
        exact ed_tup eds_nil
      · rw [hw] at hb
        cases hb
    · rcases hc with ⟨hw, _⟩ | ⟨hw, hp, _⟩
      · rw [hw] at hb
        cases hb
      · rw [← hp]
        exact ev_cb (eds_cons (ed_is (ed_slT (ed_var rfl hv) (eo_some (K := K) (ed_int (i := 2))) eo_none) (congrArg PyData.tuple cut2)) eds_nil) rc_tupT


/-! ### is_live, live_rules -/
def livB (L : List Int) (r : PyData) : Bool := (prtL r).all L.contains
def fLive : List PyData → PyData
  | [r, .list L] => .bool (livB (L.map numI) r)
  | _ => .none
def preLive (ds : List PyData) : Prop := ∃ (r : PyData) (n : Nat) (L : List Int), ds = [r, .list (L.map .int)] ∧ RF n r ∧ L.length ≤ 100
theorem rc_all' {F : Fm} {B : Hp} {bs : List Bool} {ds : List PyData} (e : ds = bs.map .bool) : RDc F K (rAll K) B [.list ds] (.bool (bs.all id)) := e ▸ rc_all
theorem numI_map (L : List Int) : (L.map PyData.int).map numI = L := by
  rw [List.map_map]
  exact List.map_id L
theorem ints_filter (L : List Int) (p : PyData → Bool) : ((L.map PyData.int).filter p).map (fun d => d) = (L.filter fun x => p (.int x)).map .int := by
  rw [List.map_id', List.filter_map]
  rfl

abbrev s_is_live : Stmt := topS 33
abbrev N_is_live : List Str := ["rule", "live", "part"]
theorem sc_is_live : FnScope N_is_live ["rule", "live"] (defScope s_is_live) := ⟨rfl, rfl, rfl, by decide +kernel, rfl, by decide +kernel, by decide +kernel⟩
theorem ok_is_live (F : Fun K "is_live" "is_live" s_is_live f fd) (T : TC K mg) (C_part_kinds : Callee P w K mg base "part_kinds" 1 ["rule"] (spF K preRF fPts)) : FnOk P w K mg base CX0 2 f fd ["rule", "live"] (spF K preLive fLive) := by
  refine F.ok sc_is_live (fun vs H Q E h => ?_) (fun cdv A outer s H vs Q E hr h => ?_)
  · obtain ⟨B, ds, e, hd, ⟨r, n, L, rfl, _⟩, q⟩ := h
    exact hd.len
  · obtain ⟨B, ds, e, hd, ⟨r, n, L, rfl, hr0, hL⟩, q⟩ := h
    obtain ⟨v, v2, rfl, hv, hl⟩ := arg2 hd
    refine ⟨_, (pss_one (ps_ret (pe_callB (cr_allK K) (by rfl) T.m_all bt_all (pa_cons (pe_lc (own := [("part", 2)]) rfl sc_is_live.nd (pi_seqK K (pe_callC C_part_kinds (hr.mono (by decide)) rfl pass0 (pa_cons (pv 0) pa_nil))) (blkOk_by (own := [("part", 2)]) (N := N_is_live) (sc := defScope s_is_live) (by decide +kernel)) (fun _ _ _ _ _ => pg_name (i := 2) sc_is_live.nd rfl (Or.inl rfl)) (fun _ _ _ _ _ => pts_nil) (fun _ _ _ _ _ => (pe_cmpR (op_inK K) (pv 2) (pv 1) (by rfl)))) pa_nil)))), ?_⟩
    have a : At Fm.pure B H B H := At.start (Ok.any e)
    have hpl := hr0.parts.1
    refine sv_ret (P := DD K (.bool (livB L r))) a (ed_is (ev_cb (eds_cons (ed_lcD (K := K) (ds := (prtL r).map .int) (fun _ => true) (fun d => .bool (L.contains (numI d))) (ev_seqT (ed_F (eds_cons (ed_var rfl hv) eds_nil) ⟨r, n, rfl, hr0⟩ rfl)) (by rw [List.length_map]; omega) (fun _ => rfl) (fun d u B1 hm e1 hu => et_yes) (fun d u B1 hm _ e1 hu => ?_)) eds_nil) (rc_all' (bs := (prtL r).map L.contains) ?_)) ?_) fun v1 B2 H2 e2 a2 h2 => q _ B2 H2 a2.st ?_
    · obtain ⟨x, _, rfl⟩ := List.mem_map.mp hm
      exact ed_is (ed_op (ed_var rfl hu) (ed_var rfl (hl.up e1)) (rd_isin (.inl rfl) rfl (flatI _))) (congrArg PyData.bool (inD_int _ _))
    · rw [List.filter_eq_self.mpr (fun _ _ => rfl), List.map_map, List.map_map]
      rfl
    · rw [List.all_map]
      rfl
    · show Dd K B2 v1 (.bool (livB ((L.map PyData.int).map numI) r))
      rw [numI_map]
      exact h2

end
end K33

namespace K33
open PySem PySem.Spec PyProof.Rows L2 Evl Ex Dx StX
open PySem.PyData (strOk)
section
variable {P : Program} {w : World} {K : PySem.W.Frag} {mg : Str → Option Value} {base : Heap} {f : Addr} {fd : FuncData}


/-! ### which kinds are live: passes over the rules -/
structure Gs (n : Nat) (rs : List PyData) : Prop where
  n8 : n ≤ 8
  n1 : 1 ≤ n
  l9 : rs.length ≤ 9
  rf : ∀ r ∈ rs, RF n r
def stepP (L : List Int) (r : PyData) : List Int := if (!L.contains (hdI r) && livB L r) = true then L ++ [hdI r] else L
def passL (rs : List PyData) (L : List Int) : List Int := rs.foldl stepP L
def liveN (rs : List PyData) : Nat → List Int
  | 0 => []
  | t + 1 => passL rs (liveN rs t)
def liveL (rs : List PyData) (n : Nat) : List Int := liveN rs (n + 1)
structure LV (n : Nat) (L : List Int) : Prop where
  nd : L.Nodup
  rg : ∀ x ∈ L, 0 ≤ x ∧ x < (n : Int)
theorem LV.len {n : Nat} {L : List Int} (h : LV n L) : L.length ≤ n := Gm.pig n L h.nd h.rg
theorem lv_nil {n : Nat} : LV n [] := ⟨List.nodup_nil, fun x hx => nomatch hx⟩
theorem step_lv {n : Nat} {L : List Int} {r : PyData} (h : LV n L) (hr : RF n r) : LV n (stepP L r) := by
  unfold stepP
  split
  · rename_i hb
    rw [Bool.and_eq_true, Bool.not_eq_true'] at hb
    refine ⟨?_, fun x hx => ?_⟩
    · rw [List.nodup_append]
      refine ⟨h.nd, by simp, fun a ha b hb2 z => ?_⟩
      rw [List.mem_singleton.mp hb2] at z
      have := List.contains_iff_mem.mpr (z ▸ ha)
      rw [this] at hb
      exact absurd hb.1 (by decide)
    · rcases List.mem_append.mp hx with hx | hx
      · exact h.rg x hx
      · rw [List.mem_singleton.mp hx]
        exact hr.hd
  · exact h
theorem step_y {L : List Int} {r : PyData} (h : (!L.contains (hdI r) && livB L r) = true) : stepP L r = L ++ [hdI r] := by
  unfold stepP
  rw [if_pos h]
theorem step_n {L : List Int} {r : PyData} (h : (!L.contains (hdI r) && livB L r) = false) : stepP L r = L := by
  unfold stepP
  rw [if_neg (by rw [h]; decide)]
theorem step_pre (L : List Int) (r : PyData) : ∃ S, stepP L r = L ++ S := by
  unfold stepP
  split
  · exact ⟨_, rfl⟩
  · exact ⟨[], (List.append_nil L).symm⟩
theorem fold_lv {n : Nat} : ∀ {rs : List PyData} {L : List Int}, (∀ r ∈ rs, RF n r) → LV n L → LV n (rs.foldl stepP L)
  | [], _, _, h => h
  | r :: rs, _, hr, h => fold_lv (rs := rs) (fun x hx => hr x (List.mem_cons_of_mem _ hx)) (step_lv h (hr r List.mem_cons_self))
theorem fold_pre : ∀ (rs : List PyData) (L : List Int), ∃ S, rs.foldl stepP L = L ++ S
  | [], L => ⟨[], (List.append_nil L).symm⟩
  | r :: rs, L => by
    obtain ⟨S, e⟩ := step_pre L r
    obtain ⟨S2, e2⟩ := fold_pre rs (stepP L r)
    refine ⟨S ++ S2, ?_⟩
    show rs.foldl stepP (stepP L r) = _
    rw [e2, e, List.append_assoc]
theorem live_lv {n : Nat} {rs : List PyData} (hr : ∀ r ∈ rs, RF n r) : ∀ t, LV n (liveN rs t)
  | 0 => lv_nil
  | t + 1 => fold_lv hr (live_lv hr t)
theorem pass_stable {rs : List PyData} {L : List Int} (h : (passL rs L).length ≤ L.length) : passL rs L = L := by
  obtain ⟨S, e⟩ := fold_pre rs L
  have e' : passL rs L = L ++ S := e
  rw [e', List.length_append] at h
  have : S = [] := List.eq_nil_of_length_eq_zero (by omega)
  rw [e', this, List.append_nil]
theorem live_later {rs : List PyData} {s : Nat} (h : passL rs (liveN rs s) = liveN rs s) : ∀ d, liveN rs (s + d) = liveN rs s
  | 0 => rfl
  | d + 1 => by
    show passL rs (liveN rs (s + d)) = _
    rw [live_later h d, h]
theorem live_many {rs : List PyData} : ∀ t, (∃ s, s < t ∧ passL rs (liveN rs s) = liveN rs s) ∨ t ≤ (liveN rs t).length
  | 0 => .inr (Nat.zero_le _)
  | t + 1 => by
    rcases live_many (rs := rs) t with ⟨s, hs, h⟩ | h
    · exact .inl ⟨s, by omega, h⟩
    · by_cases e : (passL rs (liveN rs t)).length ≤ (liveN rs t).length
      · exact .inl ⟨t, by omega, pass_stable e⟩
      · exact .inr (by show t + 1 ≤ (passL rs (liveN rs t)).length; omega)
theorem live_stable {n : Nat} {rs : List PyData} (hr : ∀ r ∈ rs, RF n r) : passL rs (liveL rs n) = liveL rs n := by
  rcases live_many (rs := rs) (n + 1) with ⟨s, hs, h⟩ | h
  · have e := live_later h (n + 1 - s)
    rw [show s + (n + 1 - s) = n + 1 by omega] at e
    unfold liveL
    rw [e, h]
  · have := (live_lv hr (n + 1)).len
    omega
theorem live_at {n : Nat} {rs : List PyData} (hr : ∀ r ∈ rs, RF n r) {t : Nat} (h : passL rs (liveN rs t) = liveN rs t) : liveN rs t = liveL rs n := by
  by_cases ht : t ≤ n + 1
  · have e := live_later h (n + 1 - t)
    rw [show t + (n + 1 - t) = n + 1 by omega] at e
    exact e.symm
  · have e := live_later (s := n + 1) (live_stable hr) (t - (n + 1))
    rw [show n + 1 + (t - (n + 1)) = t by omega] at e
    exact e
theorem foldT {rs : List PyData} {i : Nat} {r : PyData} (h : rs[i]? = some r) (L : List Int) : (rs.take (i + 1)).foldl stepP L = stepP ((rs.take i).foldl stepP L) r := by
  rw [take_snoc h, List.foldl_append]
  rfl
variable {c0 c1 c2 CP : Addr}
/-- of pairs that stand as data: f of their number of kinds and their rules -/
def spIns (K : PySem.W.Frag) (CP : Addr) (fn : Nat → List PyData → PyData) : Sp := fun vs H Q _ => ∃ (B : Hp) (vp : V) (n : Nat) (rs : List PyData), vs = [vp] ∧ Ex B H ∧ InsP K CP (.int (n : Nat)) (.tuple rs) vp B ∧ Gs n rs ∧ ∀ v' B' H', Step (fun _ => False) B H B' H' → Dd K B' v' (fn n rs) → Q v' H'
theorem ed_Ins {F : Fm} {σ : L2.St} {B : Hp} {i : Nat} {vp : V} {n : Nat} {rs : List PyData} {fn : Nat → List PyData → PyData} (hi : σ[i]? = some (some vp)) (hp : InsP K CP (.int (n : Nat)) (.tuple rs) vp B) (g : Gs n rs) : ED F K (tCall (spIns K CP fn) [] E0 (tCons (tVar i) tNil)) σ B (fn n rs) := fun B1 e1 H1 j1 Q1 q1 =>
  ⟨vp, hi, B1, vp, n, rs, rfl, j1.e, upc_ins _ _ _ e1 hp, g, fun v' B' H' s h => q1 v' B' H' s.pure (j1.pure s) h⟩
theorem ev_rules {F : Fm} {σ : L2.St} {B : Hp} {i : Nat} {vp : V} {dk : PyData} {rs : List PyData} (T : TP P w K mg base c0 c1 c2 CP) (hi : σ[i]? = some (some vp)) (hp : InsP K CP dk (.tuple rs) vp B) : ED F K (tFld K (tVar i) "rules") σ B (.tuple rs) := ev_fr T (Dx.ev_var (P := InsP K CP dk (.tuple rs)) hi upc_ins hp)
theorem ev_kinds {F : Fm} {σ : L2.St} {B : Hp} {i : Nat} {vp : V} {dk dr : PyData} (T : TP P w K mg base c0 c1 c2 CP) (hi : σ[i]? = some (some vp)) (hp : InsP K CP dk dr vp B) : ED F K (tFld K (tVar i) "kinds") σ B dk := ev_fk T (Dx.ev_var (P := InsP K CP dk dr) hi upc_ins hp)
theorem own_ints {F : Fm} {B0 H0 B H : Hp} {L : List (Addr × HO)} {na : Addr} {S : List Int} (w : Ow F B0 H0 B H ((na, .lst (S.map V.int)) :: L)) (hl : S.length ≤ 1000) : Dd K (shutL B ((na, .lst (S.map V.int)) :: L)) (.ref na) (.list (S.map .int)) := dd_ints (w.shut.2.2 _ List.mem_cons_self) (by omega)
def fLvK (n : Nat) (rs : List PyData) : PyData := .list ((liveL rs n).map .int)

theorem ddAll_mkI {H : Hp} : ∀ S : List Int, DdAll K H (S.map V.int) (S.map .int)
  | [] => .nil
  | n :: S => .cons (.int n) (ddAll_mkI S)

abbrev s_live_kinds : Stmt := topS 32
abbrev N_live_kinds : List Str := ["pairs", "live", "before", "rule"]
theorem sc_live_kinds : FnScope N_live_kinds ["pairs"] (defScope s_live_kinds) := ⟨rfl, rfl, rfl, by decide +kernel, rfl, by decide +kernel, by decide +kernel⟩
theorem ok_live_kinds (F : Fun K "live_kinds" "live_kinds" s_live_kinds f fd) (T : TP P w K mg base c0 c1 c2 CP) (C_is_live : Callee P w K mg base "is_live" 2 ["rule", "live"] (spF K preLive fLive)) : FnOk P w K mg base CX0 3 f fd ["pairs"] (spIns K CP fLvK) := by
  refine F.ok sc_live_kinds (fun vs H Q E h => ?_) (fun cdv A outer s H vs Q E hr h => ?_)
  · obtain ⟨B, vp, n, rs, rfl, _⟩ := h
    rfl
  · obtain ⟨B, vp, n, rs, rfl, e, hp, g, q⟩ := h
    have hu64 : (A.deeper (envOfC "live_kinds" (defScope s_live_kinds) s.heap.objs.size f cdv)).units + 64 < cLine := hr.units
    refine ⟨_, (pss_cons (ps_set (i := 1) sc_live_kinds.nd rfl (Or.inl rfl) (pe_lst pa_nil))
      (pss_cons (ps_set (i := 2) sc_live_kinds.nd rfl (Or.inl rfl) (pe_un un_neg pe_int))
      (pss_cons (ps_while PassesOwn.never (pt_cmpR op_lt (pv 2) (pe_callB (call_lenK K) (by rfl) T.m_len bt_len (pa_cons (pv 1) pa_nil)) (nomark _)) (pss_cons (ps_set (i := 2) sc_live_kinds.nd rfl (Or.inl rfl) (pe_callB (call_lenK K) (by rfl) T.m_len bt_len (pa_cons (pv 1) pa_nil)))
      (pss_one (ps_for PassesOwn.never rfl (pi_seqK K (pe_fldK K (pv 0))) (pg_name (i := 3) sc_live_kinds.nd rfl (Or.inl rfl)) (pss_one (ps_if (PW.pt (pw_and (pt_cmpR (op_ninK K) (pe_ix (ix_seqK K) (pv 3) pe_int (fun _ _ => rfl)) (pv 1) (by rfl)) (pw_and1 (pt_val (pe_callC C_is_live (hr.mono (by decide)) rfl pass0 (pa_cons (pv 3) (pa_cons (pv 1) pa_nil))))))) (pss_one (ps_expr (pe_bm PySem.F.plainAttrs_list PySem.F.slot_list_append PySem.F.type_list_append mt_append (pv 1) (pa_cons (pe_ix (ix_seqK K) (pv 3) pe_int (fun _ _ => rfl)) pa_nil)))) pss_nil))))))
      (pss_one (ps_ret (pv 1)))))), ?_⟩
    have n8 := g.n8
    refine wq_lst (i := 1) (ow_nil (Ok.any e)) fun na w1 => ?_
    refine wq_asg (i := 2) w1 (ed_neg (K := K) (ed_int (i := 1))) fun vb B2 H2 w2 e2 hb => ?_
    obtain rfl := dd_int hb
    refine ⟨fun m σ' H' => ∃ (b : Int) (o3 : Option V) (t : Nat) (B' : Hp), σ' = [some vp, some (.ref na), some (.int b), o3] ∧ Ex B B' ∧ Ow Fm.pure B H B' H' [(na, .lst ((liveN rs t).map V.int))] ∧ ((b = -1 ∧ t = 0) ∨ ∃ t', t = t' + 1 ∧ b = ((liveN rs t').length : Nat)) ∧ m = ((n : Int) + 1 - b).toNat, ⟨_, -1, none, 0, B2, rfl, e2, w2, .inl ⟨rfl, rfl⟩, rfl⟩, ?_⟩
    rintro m σ' H' ⟨b, o3, t, B', rfl, eB, w, hbt, rfl⟩
    have lv := live_lv (n := n) g.rf t
    have hll := lv.len
    have hbn : -1 ≤ b ∧ b ≤ (n : Int) := by
      rcases hbt with ⟨rfl, _⟩ | ⟨t', _, rfl⟩
      · omega
      · have := (live_lv (n := n) g.rf t').len
        omega
    have lenE : ∀ {F : Fm} {σ : L2.St} {B1 : Hp}, σ[1]? = some (some (.ref na)) → Dd K B1 (.ref na) (.list ((liveN rs t).map .int)) → ED F K (tCB (fun xs H Q => ∃ x n, xs = [x] ∧ LenV K x H n ∧ Q (.int (n : Nat)) H) (tCons (tVar 1) tNil)) σ B1 (.int (((liveN rs t).length : Nat) : Int)) := fun h1 h2 => ed_is (ev_cb (eds_cons (ed_var h1 h2) eds_nil) (rc_len rfl)) (by show PyData.int ((((liveN rs t).map PyData.int).length : Nat) : Int) = _; rw [List.length_map])
    have tst : ETt Fm.pure (tTest (tOp (rI0 fun i j => .bl (decide (i < j))) (tVar 2) (tCB (fun xs H Q => ∃ x n, xs = [x] ∧ LenV K x H n ∧ Q (.int (n : Nat)) H) (tCons (tVar 1) tNil)))) [some vp, some (.ref na), some (.int b), o3] (shutL B' [(na, .lst ((liveN rs t).map V.int))]) (decide (b < ((liveN rs t).length : Nat))) := et_cmp (ed_op (ed_var rfl (.int b)) (lenE rfl (own_ints w (by omega))) rd_lt)
    refine tst _ (Ex.refl _) H' w.shut.1.k _ fun B5 H5 s5 k5 => ?_
    have w5 := w.look s5 k5
    by_cases hlt : b < ((liveN rs t).length : Nat)
    · rw [decide_eq_true hlt, if_pos rfl]
      refine ⟨_, fun σ2 H3 q => q, ?_⟩
      refine wl_asg (W := fun v => v = .int (((liveN rs t).length : Nat) : Int)) (i := 2) w5 (EV.imp (lenE rfl (own_ints w5 (by omega))) fun v _ _ g => dd_int g) fun v6 H6 w6 ev => ?_
      subst ev
      refine os_forD (K := K) (F := Fm.pure) (g := gName 3) (ds := rs) w6.k (ev_seqT (ev_rules T rfl (upc_ins _ _ _ eB hp))) (fun i σ' B7 H7 => (∃ o3, σ' = [some vp, some (.ref na), some (.int (((liveN rs t).length : Nat) : Int)), o3]) ∧ Ex B' B7 ∧ Ow Fm.pure B H B7 H7 [(na, .lst ((((rs.take i).foldl stepP (liveN rs t))).map V.int))]) (fun i σ' B7 H7 ⟨_, _, w'⟩ => w'.k.e)
        (fun B7 H7 s7 k7 => ⟨⟨_, rfl⟩, s7.bb, w6.pass s7 k7⟩) (fun Bc i r v σ' B7 H7 hri ec e7 hv hj => ?_) (fun σ' B7 H7 e7 hj => ?_)
      · obtain ⟨⟨o3, rfl⟩, e67, w7⟩ := hj
        have hrm := List.mem_of_getElem? hri
        have hrf := g.rf r hrm
        have lv7 := fold_lv (n := n) (rs := rs.take i) (fun x hx => g.rf x (List.mem_of_mem_take hx)) lv
        have hl7 := lv7.len
        have d7 := own_ints (K := K) w7 (by omega)
        have e7s := w7.shut.2.1
        have hv7 := hv.up e7s
        dsimp only [gName]
        refine wl_if w7 (b := !((rs.take i).foldl stepP (liveN rs t)).contains (hdI r) && livB ((rs.take i).foldl stepP (liveN rs t)) r) (et_and (et_is (et_cmp (ed_op (ed_hd (i := 3) rfl hv7 hrf) (ed_var (i := 1) rfl d7) (rd_notin (.inl rfl) rfl (flatI _)))) (congrArg Bool.not (inD_int _ _))) fun _ => et_val (ed_F (eds_cons (ed_var (i := 3) rfl hv7) (eds_cons (ed_var (i := 1) rfl d7) eds_nil)) ⟨r, n, _, rfl, hrf, by omega⟩ (by show PyData.bool (livB ((((rs.take i).foldl stepP (liveN rs t)).map PyData.int).map numI) r) = _; rw [numI_map]))) (fun hb H8 w8 => ?_) (fun hb H8 w8 => ?_)
        · refine ws_app w8 (i := 1) rfl (ed_hd (i := 3) rfl hv hrf) (by rw [List.length_map]; omega) fun v9 B9 H9 w9 e9 g9 => ?_
          obtain rfl := dd_int g9
          refine ⟨B9, e7.trans e9, ⟨_, rfl⟩, e67.trans e9, ?_⟩
          rw [foldT hri, step_y hb, List.map_append]
          exact w9
        · refine ⟨B7, e7, ⟨_, rfl⟩, e67, ?_⟩
          rw [foldT hri, step_n hb]
          exact w8
      · obtain ⟨⟨o3, rfl⟩, e67, w7⟩ := hj
        rw [List.take_length] at w7
        exact ⟨((n : Int) + 1 - ((liveN rs t).length : Nat)).toNat, by omega, _, _, t + 1, B7, rfl, eB.trans e67, w7, .inr ⟨t, rfl, rfl⟩, rfl⟩
    · rw [decide_eq_false hlt, if_neg (by decide)]
      rcases hbt with ⟨rfl, rfl⟩ | ⟨t', rfl, rfl⟩
      · exact absurd (show (-1 : Int) < ((liveN rs 0).length : Nat) by omega) hlt
      · have st : passL rs (liveN rs t') = liveN rs t' := pass_stable (by
          have : ((liveN rs (t' + 1)).length : Int) ≤ ((liveN rs t').length : Nat) := by omega
          show (liveN rs (t' + 1)).length ≤ _
          omega)
        have e1 : liveN rs (t' + 1) = liveL rs n := by
          rw [← live_at g.rf st]
          exact st
        rw [e1] at w5
        obtain ⟨w6, e6, d6⟩ := w5.dropL (ds := (liveL rs n).map .int) (K := K) (ddAll_mkI _) (by rw [List.length_map]; have := (live_lv (n := n) g.rf (n + 1)).len; show (liveN rs (n + 1)).length ≤ _; omega)
        refine ws_ret w6 (ed_var (i := 1) rfl d6) fun v7 B7 H7 w7 e7 g7 => q _ B7 H7 w7.st g7

abbrev s_live_rules : Stmt := topS 34
abbrev N_live_rules : List Str := ["pairs", "live", "rule"]
theorem sc_live_rules : FnScope N_live_rules ["pairs", "live"] (defScope s_live_rules) := ⟨rfl, rfl, rfl, by decide +kernel, rfl, by decide +kernel, by decide +kernel⟩
def spLR (K : PySem.W.Frag) (CP : Addr) : Sp := fun vs H Q _ => ∃ (B : Hp) (vp vl : V) (n : Nat) (rs : List PyData) (L : List Int), vs = [vp, vl] ∧ Ex B H ∧ InsP K CP (.int (n : Nat)) (.tuple rs) vp B ∧ Gs n rs ∧ Dd K B vl (.list (L.map .int)) ∧ L.length ≤ 100 ∧ ∀ v' B' H', Step (fun _ => False) B H B' H' → Dd K B' v' (.list (rs.filter (livB L))) → Q v' H'
theorem ok_live_rules (F : Fun K "live_rules" "live_rules" s_live_rules f fd) (T : TP P w K mg base c0 c1 c2 CP) (C_is_live : Callee P w K mg base "is_live" 2 ["rule", "live"] (spF K preLive fLive)) : FnOk P w K mg base CX0 3 f fd ["pairs", "live"] (spLR K CP) := by
  refine F.ok sc_live_rules (fun vs H Q E h => ?_) (fun cdv A outer s H vs Q E hr h => ?_)
  · obtain ⟨B, vp, vl, n, rs, L, rfl, _⟩ := h
    rfl
  · obtain ⟨B, vp, vl, n, rs, L, rfl, e, hp, g, hl, hL, q⟩ := h
    refine ⟨_, (pss_one (ps_ret (pe_lc (own := [("rule", 2)]) rfl sc_live_rules.nd (pi_seqK K (pe_fldK K (pv 0))) (blkOk_by (own := [("rule", 2)]) (N := N_live_rules) (sc := defScope s_live_rules) (by decide +kernel)) (fun _ _ _ _ _ => pg_name (i := 2) sc_live_rules.nd rfl (Or.inl rfl)) (fun _ _ _ _ _ => (pts_one (pt_val (pe_callC C_is_live (hr.mono (by decide)) rfl pass0 (pa_cons (pv 2) (pa_cons (pv 1) pa_nil)))))) (fun _ _ _ _ _ => (pv 2))))), ?_⟩
    have a : At Fm.pure B H B H := At.start (Ok.any e)
    have l9 := g.l9
    refine sv_ret (P := DD K (.list (rs.filter (livB L)))) a (ed_is (ed_lcD (K := K) (ds := rs) (livB L) (fun d => d) (ev_seqT (ev_rules T rfl hp)) (by omega) (fun _ => rfl) (fun d v B1 hm e1 hv => et_val (ed_F (eds_cons (ed_var (i := 2) rfl hv) (eds_cons (ed_var (i := 1) rfl (hl.up e1)) eds_nil)) ⟨d, n, L, rfl, g.rf d hm, hL⟩ (by show PyData.bool (livB ((L.map PyData.int).map numI) d) = _; rw [numI_map]))) (fun d v B1 hm _ e1 hv => ed_var (i := 2) rfl hv)) (by rw [List.map_id'])) fun v1 B2 H2 e2 a2 h2 => q _ B2 H2 a2.st h2

abbrev s_law_live : Stmt := topS 58
abbrev N_law_live : List Str := ["grammar", "found", "turn", "rule", "part"]
theorem sc_law_live : FnScope N_law_live ["grammar"] (defScope s_law_live) := ⟨rfl, rfl, rfl, by decide +kernel, rfl, by decide +kernel, by decide +kernel⟩
/-! ### _law_live -/
def fLLv : List PyData → PyData
  | [.tuple [.int n, .tuple rs]] => .list ((liveL rs n.toNat).map .int)
  | _ => .none
def preGr (ds : List PyData) : Prop := ∃ (n : Nat) (rs : List PyData), ds = [.tuple [.int (n : Nat), .tuple rs]] ∧ Gs n rs
theorem liv_emp (L : List Int) (r : PyData) : ((prtL r).filter fun x => !L.contains x).isEmpty = livB L r := by
  rw [filter_emp]
  unfold livB
  congr 1
  funext x
  rw [Bool.not_not]
theorem ok_law_live (F : Fun K "_law_live" "_law_live" s_law_live f fd) (T : TC K mg) (C_law_parts : Callee P w K mg base "_law_parts" 1 ["rule"] (spF K preRF fPts)) : FnOk P w K mg base CX0 2 f fd ["grammar"] (spF K preGr fLLv) := by
  refine F.ok sc_law_live (fun vs H Q E h => ?_) (fun cdv A outer s H vs Q E hr h => ?_)
  · obtain ⟨B, ds, e, hd, ⟨n, rs, rfl, g⟩, q⟩ := h
    exact hd.len
  · obtain ⟨B, ds, e, hd, ⟨n, rs, rfl, g⟩, q⟩ := h
    obtain ⟨vg, rfl, hg⟩ := arg1 hd
    have hu64 : (A.deeper (envOfC "_law_live" (defScope s_law_live) s.heap.objs.size f cdv)).units + 64 < cLine := hr.units
    refine ⟨_, (pss_cons (ps_set (i := 1) sc_law_live.nd rfl (Or.inr rfl) (pe_lst pa_nil))
      (pss_cons (ps_for PassesOwn.never rfl (pi_range1 rfl T.m_range (pa_cons (pe_op (op_addK K) (pe_ix (ix_seqK K) (pv 0) pe_int (fun _ _ => rfl)) pe_int) pa_nil)) (pg_name (i := 2) sc_law_live.nd rfl (Or.inl rfl)) (pss_one (ps_for PassesOwn.never rfl (pi_seqK K (pe_ix (ix_seqK K) (pv 0) pe_int (fun _ _ => rfl))) (pg_name (i := 3) sc_law_live.nd rfl (Or.inl rfl)) (pss_one (ps_if (PW.pt (pw_and (pt_cmpR (op_ninK K) (pe_ix (ix_seqK K) (pv 3) pe_int (fun _ _ => rfl)) (pv 1) (by rfl)) (pw_and1 (pt_cmpR (op_eqDK K hu64) (pe_lc (own := [("part", 4)]) rfl sc_law_live.nd (pi_seqK K (pe_callC C_law_parts (hr.mono (by decide)) rfl pass0 (pa_cons (pv 3) pa_nil))) (blkOk_by (own := [("part", 4)]) (N := N_law_live) (sc := defScope s_law_live) (by decide +kernel)) (fun _ _ _ _ _ => pg_name (i := 4) sc_law_live.nd rfl (Or.inl rfl)) (fun _ _ _ _ _ => (pts_one (pt_cmpR (op_ninK K) (pv 4) (pv 1) (by rfl)))) (fun _ _ _ _ _ => (pv 4))) (pe_lst pa_nil) (nomark _))))) (pss_one (ps_expr (pe_bm PySem.F.plainAttrs_list PySem.F.slot_list_append PySem.F.type_list_append mt_append (pv 1) (pa_cons (pe_ix (ix_seqK K) (pv 3) pe_int (fun _ _ => rfl)) pa_nil)))) pss_nil)))))
      (pss_one (ps_ret (pv 1))))), ?_⟩
    have n8 := g.n8
    have l9 := g.l9
    refine wq_lst (i := 1) (ow_nil (Ok.any e)) fun na w1 => ?_
    refine oq_rng1 (K := K) (F := Fm.pure) (n := (n : Int) + 1) (j := 2) w1.k (eds_cons (ed_op (ed_op (ed_var (i := 0) rfl hg) ed_int (rd_ixT at2_0)) ed_int rd_add) eds_nil) (by omega) (fun t σ' B' H' => (∃ o2 o3, σ' = [some vg, some (.ref na), o2, o3, none]) ∧ Ex B B' ∧ Ow Fm.pure B H B' H' [(na, .lst ((liveN rs t).map V.int))])
      (fun B1 H1 s1 k1 => ⟨⟨_, _, rfl⟩, s1.bb, w1.pass s1 k1⟩) (fun Bb t σ' B1 H1 eb ht e1 hj => ?_) (fun σ' B1 H1 e1 hj => ?_)
    · obtain ⟨⟨o2, o3, rfl⟩, eB, w⟩ := hj
      have lv := live_lv (n := n) g.rf t
      refine os_forD (K := K) (F := Fm.pure) (g := gName 3) (ds := rs) w.k (ev_seqT (ed_op (ed_var (i := 0) rfl (hg.up eB)) ed_int (rd_ixT at2_1))) (fun i σ' B7 H7 => (∃ o3, σ' = [some vg, some (.ref na), some (.int (t : Nat)), o3, none]) ∧ Ex B1 B7 ∧ Ow Fm.pure B H B7 H7 [(na, .lst ((((rs.take i).foldl stepP (liveN rs t))).map V.int))]) (fun i σ' B7 H7 ⟨_, _, w'⟩ => w'.k.e)
        (fun B7 H7 s7 k7 => ⟨⟨_, rfl⟩, s7.bb, w.pass s7 k7⟩) (fun Bc i r v σ' B7 H7 hri ec e7 hv hj => ?_) (fun σ' B7 H7 e7 hj => ?_)
      · obtain ⟨⟨o3, rfl⟩, e67, w7⟩ := hj
        have hrm := List.mem_of_getElem? hri
        have hrf := g.rf r hrm
        have lv7 := fold_lv (n := n) (rs := rs.take i) (fun x hx => g.rf x (List.mem_of_mem_take hx)) lv
        have hl7 := lv7.len
        have d7 := own_ints (K := K) w7 (by omega)
        have e7s := w7.shut.2.1
        have hv7 := hv.up e7s
        have hpl := hrf.parts.1
        dsimp only [gName]
        refine wl_if w7 (b := !((rs.take i).foldl stepP (liveN rs t)).contains (hdI r) && livB ((rs.take i).foldl stepP (liveN rs t)) r) (et_and (et_is (et_cmp (ed_op (ed_hd (i := 3) rfl hv7 hrf) (ed_var (i := 1) rfl d7) (rd_notin (.inl rfl) rfl (flatI _)))) (congrArg Bool.not (inD_int _ _))) fun _ => et_is (et_cmp (ed_op (ed_lcD (K := K) (ds := (prtL r).map .int) (fun d => !((rs.take i).foldl stepP (liveN rs t)).contains (numI d)) (fun d => d) (ev_seqT (ed_F (eds_cons (ed_var (i := 3) rfl hv7) eds_nil) ⟨r, n, rfl, hrf⟩ rfl)) (by rw [List.length_map]; omega) (fun _ => rfl) (fun d u B8 hm e8 hu => ?_) (fun d u B8 hm _ e8 hu => ed_var (i := 4) rfl hu)) (ed_lst eds_nil) (rd_eqD ?_ rfl))) ?_) (fun hb H8 w8 => ?_) (fun hb H8 w8 => ?_)
        · obtain ⟨x, _, rfl⟩ := List.mem_map.mp hm
          exact et_is (et_cmp (ed_op (ed_var (i := 4) rfl hu) (ed_var (i := 1) rfl (d7.up e8)) (rd_notin (.inl rfl) rfl (flatI _)))) (congrArg Bool.not (inD_int _ _))
        · rw [ints_filter]
          exact (sm_lst (n := 5) fun d hd => by
            obtain ⟨x, _, rfl⟩ := List.mem_map.mp hd
            exact sm_int).sh
        · rw [ints_filter, eqv_nil, ← liv_emp]
          show List.isEmpty (List.map PyData.int ((prtL r).filter fun x => !((rs.take i).foldl stepP (liveN rs t)).contains x)) = _
          rw [List.isEmpty_map]
        · refine ws_app w8 (i := 1) rfl (ed_hd (i := 3) rfl hv hrf) (by rw [List.length_map]; omega) fun v9 B9 H9 w9 e9 g9 => ?_
          obtain rfl := dd_int g9
          refine ⟨B9, e7.trans e9, ⟨_, rfl⟩, e67.trans e9, ?_⟩
          rw [foldT hri, step_y hb, List.map_append]
          exact w9
        · refine ⟨B7, e7, ⟨_, rfl⟩, e67, ?_⟩
          rw [foldT hri, step_n hb]
          exact w8
      · obtain ⟨⟨o3, rfl⟩, e67, w7⟩ := hj
        rw [List.take_length] at w7
        exact ⟨B7, e1.trans e67, ⟨_, _, rfl⟩, eB.trans e67, w7⟩
    · obtain ⟨⟨o2, o3, rfl⟩, eB, w⟩ := hj
      rw [show ((n : Int) + 1).toNat = n + 1 by omega] at w
      obtain ⟨w6, e6, d6⟩ := w.dropL (ds := (liveL rs n).map .int) (K := K) (ddAll_mkI _) (by rw [List.length_map]; have := (live_lv (n := n) g.rf (n + 1)).len; show (liveN rs (n + 1)).length ≤ _; omega)
      refine ws_ret w6 (ed_var (i := 1) rfl d6) fun v7 B7 H7 w7 e7 g7 => q _ B7 H7 w7.st g7

end
end K33

namespace K33
open PySem PySem.Spec PyProof.Rows L2 Evl Ex Dx StX
open PySem.PyData (strOk)
section
variable {P : Program} {w : World} {K : PySem.W.Frag} {mg : Str → Option Value} {base : Heap} {f : Addr} {fd : FuncData}


/-! ### live_steps -/
def stE (rows : List PyData) : List (Int × Int) := rows.flatMap fun r => (prtL r).map fun c => (hdI r, c)
def lsE (rs : List PyData) (L : List Int) : List (Int × Int) := stE (rs.filter (livB L))
theorem stE_len {n : Nat} : ∀ {rows : List PyData}, (∀ r ∈ rows, RF n r) → (stE rows).length ≤ 2 * rows.length
  | [], _ => Nat.le_refl _
  | r :: rows, h => by
    have h1 := (h r List.mem_cons_self).parts.1
    have h2 := stE_len (rows := rows) fun x hx => h x (List.mem_cons_of_mem _ hx)
    show ((prtL r).map (fun c => (hdI r, c)) ++ stE rows).length ≤ 2 * (rows.length + 1)
    rw [List.length_append, List.length_map]
    omega
theorem stE_mem {rows : List PyData} {a b : Int} : (a, b) ∈ stE rows ↔ ∃ r ∈ rows, hdI r = a ∧ b ∈ prtL r := by
  unfold stE
  rw [List.mem_flatMap]
  constructor
  · rintro ⟨r, hr, h⟩
    obtain ⟨c, hc, e⟩ := List.mem_map.mp h
    cases e
    exact ⟨r, hr, rfl, hc⟩
  · rintro ⟨r, hr, rfl, h⟩
    exact ⟨r, hr, List.mem_map.mpr ⟨b, h, rfl⟩⟩
theorem stE_in {n : Nat} {rows : List PyData} (h : ∀ r ∈ rows, RF n r) (a b : Int) (hm : (a, b) ∈ stE rows) : (0 ≤ a ∧ a < (n : Int)) ∧ 0 ≤ b ∧ b < (n : Int) := by
  obtain ⟨r, hr, rfl, hb⟩ := stE_mem.mp hm
  exact ⟨(h r hr).hd, (h r hr).parts.2 b hb⟩
theorem lsE_rf {n : Nat} {rs : List PyData} (h : ∀ r ∈ rs, RF n r) (L : List Int) : ∀ r ∈ rs.filter (livB L), RF n r := fun r hr => h r (List.mem_filter.mp hr).1
theorem stE_snoc {rows : List PyData} {i : Nat} {r : PyData} (h : rows[i]? = some r) : stE (rows.take (i + 1)) = stE (rows.take i) ++ (prtL r).map fun c => (hdI r, c) := by
  rw [take_snoc h]
  unfold stE
  rw [List.flatMap_append, List.flatMap_cons, List.flatMap_nil, List.append_nil]
theorem adj_app (E E' : List (Int × Int)) (k : Int) : adj (E ++ E') k = adj E k ++ adj E' k := by
  unfold adj
  rw [List.filter_append, List.map_append]
theorem adj_row (a k : Int) : ∀ S : List Int, adj (S.map fun c => (a, c)) k = if a = k then S else []
  | [] => by
    split <;> rfl
  | c :: S => by
    have ih := adj_row a k S
    unfold adj at ih ⊢
    rw [List.map_cons, List.filter_cons]
    by_cases h : a = k
    · rw [if_pos (beq_iff_eq.mpr h), List.map_cons, ih, if_pos h, if_pos h]
    · rw [if_neg (fun z => h (beq_iff_eq.mp z)), ih, if_neg h, if_neg h]
variable {c0 c1 c2 CP : Addr}
def spLS (K : PySem.W.Frag) (CP : Addr) : Sp := fun vs H Q _ => ∃ (B : Hp) (vp vl : V) (n : Nat) (rs : List PyData) (L : List Int), vs = [vp, vl] ∧ Ex B H ∧ InsP K CP (.int (n : Nat)) (.tuple rs) vp B ∧ Gs n rs ∧ Dd K B vl (.list (L.map .int)) ∧ L.length ≤ 100 ∧ ∀ v' B' H', Step (fun _ => False) B H B' H' → Dd K B' v' (adjD (lsE rs L) n) → Q v' H'

abbrev s_live_steps : Stmt := topS 35
abbrev N_live_steps : List Str := ["pairs", "live", "steps", "rule", "_"]
theorem sc_live_steps : FnScope N_live_steps ["pairs", "live"] (defScope s_live_steps) := ⟨rfl, rfl, rfl, by decide +kernel, rfl, by decide +kernel, by decide +kernel⟩
theorem ok_live_steps (F : Fun K "live_steps" "live_steps" s_live_steps f fd) (T : TP P w K mg base c0 c1 c2 CP) (C_part_kinds : Callee P w K mg base "part_kinds" 1 ["rule"] (spF K preRF fPts)) (C_live_rules : Callee P w K mg base "live_rules" 3 ["pairs", "live"] (spLR K CP)) : FnOk P w K mg base CX0 4 f fd ["pairs", "live"] (spLS K CP) := by
  refine F.ok sc_live_steps (fun vs H Q E h => ?_) (fun cdv A outer s H vs Q E hr h => ?_)
  · obtain ⟨B, vp, vl, n, rs, L, rfl, _⟩ := h
    rfl
  · obtain ⟨B0, vp, vl, n, rs, L, rfl, e0, hp0, g, hl0, hL, q⟩ := h
    refine ⟨_, (pss_cons (ps_setLc (i := 2) (own := [("_", 4)]) rfl sc_live_steps.nd rfl rfl (sw_true rfl rfl rfl (by decide +kernel)) (pi_range1 rfl T.m_range (pa_cons (pe_fldK K (pv 0)) pa_nil)) (blkOk_by (own := [("_", 4)]) (N := N_live_steps) (sc := defScope s_live_steps) (by decide +kernel)) (fun _ _ _ _ _ => pg_name (i := 4) sc_live_steps.nd rfl (Or.inl rfl)) (fun _ _ _ _ _ => pts_nil) (fun _ _ _ _ _ => (pe_lst pa_nil)))
      (pss_cons (ps_for PassesOwn.never rfl (pi_seqK K (pe_callC C_live_rules (hr.mono (by decide)) rfl pass0 (pa_cons (pv 0) (pa_cons (pv 1) pa_nil)))) (pg_name (i := 3) sc_live_steps.nd rfl (Or.inl rfl)) (pss_one (ps_expr (pe_bm PySem.F.plainAttrs_list PySem.F.slot_list_extend PySem.F.type_list_extend (Qx.mt_extendT K) (pe_ix (ix_seqK K) (pv 2) (pe_ix (ix_seqK K) (pv 3) pe_int (fun _ _ => rfl)) (fun _ _ => rfl)) (pa_cons (pe_callC C_part_kinds (hr.mono (by decide)) rfl pass0 (pa_cons (pv 3) pa_nil)) pa_nil)))))
      (pss_one (ps_ret (pv 2))))), ?_⟩
    have hn := g.n8
    refine ev_kinds T rfl hp0 B0 (Ex.refl B0) H (Ok.any e0) _ fun vk B H0 s0 k0 gk => ?_
    obtain rfl := dd_int gk
    have e : Ex B H0 := k0.e
    have hp := upc_ins _ _ _ s0.bb hp0
    have hl := hl0.up s0.bb
    refine ⟨(n : Nat), rfl, by omega, by omega, fun Dl hDl => lc_range (lo := 0) (n := n) (fun i H' => ∃ refs : List Addr, refs.length = i ∧ Rep H0 H' Dl refs fun _ => []) ⟨[], rfl, Ex.new hDl, hDl, upd_same, List.nodup_nil, fun i r h => by simp at h⟩ (fun i H' hi ⟨refs, hlen, R⟩ => ?_) (fun H1 ⟨refs, hlen, R⟩ => ?_)⟩
    · refine ⟨rfl, ?_⟩
      show _ ∧ _
      refine ⟨Nat.zero_le _, fun a ha => ?_⟩
      have hal : a ≠ Dl := fun z => by rw [z, R.hD] at ha; cases ha
      have h0a : H0 a = none := fresh_back R.ex ha
      refine ⟨refs.map V.ref, by rw [upd_ne (Ne.symm hal)]; exact R.hD, by rw [List.length_map, sizeLine_eq, hlen]; omega, refs ++ [a], by rw [List.length_append, hlen]; rfl, ?_⟩
      refine ⟨fun x o h => ?_, R.fD, by rw [upd_same, List.map_append]; rfl, ?_, fun j r hj => ?_⟩
      · have n1 : x ≠ a := ne_of_none h h0a
        have n2 : x ≠ Dl := ne_of_none h R.fD
        rw [upd_ne n2, upd_ne n1]
        exact R.ex _ _ h
      · rw [List.nodup_append]
        refine ⟨R.nd, by simp, fun x hx y hy => ?_⟩
        rw [List.mem_singleton] at hy
        subst hy
        obtain ⟨j, hj⟩ := List.getElem?_of_mem hx
        intro z
        subst z
        rw [(R.it j x hj).2.2] at ha
        cases ha
      · by_cases hlt : j < refs.length
        · rw [List.getElem?_append_left hlt] at hj
          obtain ⟨r1, r2, r3⟩ := R.it j r hj
          refine ⟨r1, r2, ?_⟩
          have n1 : r ≠ a := fun z => by rw [z, ha] at r3; cases r3
          rw [upd_ne r2, upd_ne n1]
          exact r3
        · rw [List.getElem?_append_right (by omega)] at hj
          have hj0 : j - refs.length = 0 := by
            have := (List.getElem?_eq_some_iff.mp hj).1
            simp at this
            omega
          rw [hj0] at hj
          obtain rfl : a = r := by simpa using hj
          exact ⟨h0a, hal, by rw [upd_ne hal, upd_same]; rfl⟩
    · have hrf := lsE_rf g.rf L
      have hlr : (rs.filter (livB L)).length ≤ 9 := Nat.le_trans (List.length_filter_le _ _) g.l9
      have kB : Ok Fm.pure B H1 := Ok.any (e.trans R.ex)
      have cal : ED Fm.pure K (tCall (spLR K CP) [] E0 (tCons (tVar 0) (tCons (tVar 1) tNil))) [some vp, some vl, some (.ref Dl), none, none] B (.list (rs.filter (livB L))) := fun B1 e1 H2 j1 Q1 q1 =>
        ⟨vp, rfl, vl, rfl, B1, vp, vl, n, rs, L, rfl, j1.e, upc_ins _ _ _ e1 hp, g, hl.up e1, hL, fun v' B' H' s h => q1 v' B' H' s.pure (j1.pure s) h⟩
      refine cal B (Ex.refl B) H1 kB _ fun vr B2 H2 s2 k2 gr => ?_
      obtain ⟨t, us, rfl, ht, _, htd⟩ := dd_lst gr
      have R2 := R.mono s2.ex
      have bD : B2 Dl = none := s2.sep Dl (fresh_back e R.fD) ⟨_, R.hD, trivial⟩
      have bR : ∀ i r, refs[i]? = some r → B2 r = none := fun i r h => by
        obtain ⟨r1, _, r3⟩ := R.it i r h
        exact s2.sep r (fresh_back e r1) ⟨_, r3, trivial⟩
      refine ⟨t, rfl, .inl ⟨⟨us, sq_of (k2.e _ _ ht)⟩, for_list (K := K) (xs := us) (fun i σ' H' => (∃ o, σ' = [some vp, some vl, some (.ref Dl), o, none]) ∧ Ex B2 H' ∧ Rep H0 H' Dl refs fun k => adj (stE ((rs.filter (livB L)).take i)) (k : Nat)) ⟨⟨none, rfl⟩, k2.e, R2⟩ (fun i σ' H' _ ⟨_, e', _⟩ => sq_of (e' _ _ ht)) (fun i x σ' H' hx ⟨⟨o, ho⟩, e', R'⟩ => ?_) (fun σ' H' ⟨⟨o, ho⟩, e', R'⟩ => ?_)⟩⟩
      · subst ho
        obtain ⟨r, hr1, hrd⟩ := htd.getv hx
        have hrfr := hrf r (List.mem_of_getElem? hr1)
        have ia : ED Fm.pure K (tOp (rIx K) (tVar 3) (tC (.int 0))) [some vp, some vl, some (.ref Dl), some x, none] B2 (.int (hdI r)) := ed_hd rfl hrd hrfr
        obtain ⟨ha0, ha1⟩ := hrfr.hd
        refine ⟨.ref Dl, rfl, ?_⟩
        refine ia B2 (Ex.refl B2) H' (Ok.any e') _ fun va B3 H3 s3 j3 ga => ?_
        obtain rfl := dd_int ga
        have R3 := R'.mono s3.ex
        have e3 : Ex B2 H3 := e'.trans s3.ex
        have hlt : (hdI r).toNat < refs.length := by rw [hlen]; omega
        obtain ⟨rf, hrr⟩ : ∃ rf, refs[(hdI r).toNat]? = some rf := ⟨_, List.getElem?_eq_getElem hlt⟩
        have en : (((hdI r).toNat : Nat) : Int) = hdI r := by omega
        refine .inl ⟨Dl, refs.map V.ref, hdI r, .ref rf, rfl, rfl, sq_of R3.hD, at_of en.symm (by rw [List.getElem?_map, hrr]; rfl), ?_⟩
        obtain ⟨r1, r2, r3⟩ := R3.it _ rf hrr
        refine ⟨.inl ⟨rfl, _, sq_of r3⟩, ?_⟩
        have ic : ED Fm.pure K (tCall (spF K preRF fPts) [] E0 (tCons (tVar 3) tNil)) [some vp, some vl, some (.ref Dl), some x, none] B2 (.tuple ((prtL r).map .int)) := ed_F (eds_cons (ed_var rfl hrd) eds_nil) ⟨r, n, rfl, hrfr⟩ rfl
        refine ic B2 (Ex.refl B2) H3 (Ok.any e3) _ fun vc B4 H4 s4 j4 gc => ?_
        obtain ⟨tb, ub, rfl, htb, _, hub⟩ := dd_tup gc
        obtain rfl := ddAll_ints hub
        have R4 := R3.mono s4.ex
        have e4 : Ex B2 H4 := e3.trans s4.ex
        obtain ⟨q1, q2, q3⟩ := R4.it _ rf hrr
        refine ⟨rf, tb, _, _, rfl, rfl, q3, ex_t j4.e htb, ?_, ⟨_, rfl⟩, ?_⟩
        · have h1 := adj_len (stE ((rs.filter (livB L)).take i)) (((hdI r).toNat : Nat) : Int)
          have h2 := stE_len (n := n) (rows := (rs.filter (livB L)).take i) fun x hx => hrf x (List.mem_of_mem_take hx)
          have h3 : ((rs.filter (livB L)).take i).length ≤ (rs.filter (livB L)).length := by rw [List.length_take]; exact Nat.min_le_right _ _
          have h4 := hrfr.parts.1
          rw [List.length_map, List.length_map, sizeLine_eq]
          omega
        · refine ⟨fun y o h => ?_, ⟨fun y o h => ?_, R4.fD, by rw [upd_ne (Ne.symm q2)]; exact R4.hD, R4.nd, fun j y hy => ?_⟩⟩
          · rw [upd_ne (ne_of_none h (bR _ _ hrr))]
            exact e4 _ _ h
          · rw [upd_ne (ne_of_none h q1)]
            exact R4.ex _ _ h
          · obtain ⟨y1, y2, y3⟩ := R4.it j y hy
            refine ⟨y1, y2, ?_⟩
            show upd H4 rf _ y = some (.lst ((adj (stE ((rs.filter (livB L)).take (i + 1))) ((j : Nat) : Int)).map V.int))
            rw [stE_snoc hr1, adj_app, adj_row]
            by_cases hj : j = (hdI r).toNat
            · subst hj
              rw [hrr] at hy
              cases hy
              rw [upd_same, if_pos en.symm, List.map_append]
            · have nyr : y ≠ rf := fun z => by
                subst z
                exact hj ((List.getElem?_inj (List.getElem?_eq_some_iff.mp hy).1 R4.nd).mp (hy.trans hrr.symm))
              rw [upd_ne nyr, if_neg (by omega), List.append_nil]
              exact y3
      · subst ho
        refine ⟨.ref Dl, rfl, ?_⟩
        have lr : us.length = (rs.filter (livB L)).length := htd.len
        rw [lr, List.take_length] at R'
        refine q (.ref Dl) (rst B H0 H') H' (s0.trans (rst_step e R'.ex)) ?_
        refine R'.data e hlen (by omega) fun i _ => ?_
        have h1 := adj_len (stE (rs.filter (livB L))) ((i : Nat) : Int)
        have h2 := stE_len hrf
        omega

end
end K33

namespace K33
open PySem PySem.Spec PyProof.Rows L2 Evl Ex Dx StX
open PySem.PyData (strOk)
section
variable {P : Program} {w : World} {K : PySem.W.Frag} {mg : Str → Option Value} {base : Heap} {f : Addr} {fd : FuncData}


theorem evs_starL {F : Fm} {σ : L2.St} {B : Hp} {te : TE} {t : TA} {es : List PyData} {R : List PyData → Prop} (h : EV F te σ B (fun v B => ∃ ds, R ds ∧ Dd K B v (.list ds))) (hs : ∀ B1, Ex B B1 → EDs F K t σ B1 es) : EVs F (tStar K te t) σ B (fun vs B => ∃ ds, R ds ∧ DdAll K B vs (ds ++ es)) := fun B1 e0 H k Q q => h B1 e0 H k _ fun v B2 H2 s2 k2 ⟨ds, r, g⟩ => by
  obtain ⟨a, xs, rfl, h1, _, g1⟩ := dd_lst g
  exact ⟨a, xs, rfl, .inr (sq_of (k2.e _ _ h1)), hs B2 (e0.trans s2.bb) B2 (Ex.refl B2) H2 k2 _ fun us B3 H3 s3 k3 gs => q _ B3 H3 (s2.trans s3) k3 ⟨ds, r, (g1.up s3.bb).app gs⟩⟩
/-! ### kinds_in_use -/
/-- what kinds_behind answers -/
structure KBs (E : List (Int × Int)) (k : Int) (S : List Int) : Prop where
  m : ∀ x, x ∈ S ↔ Gm.Rch E k x
  run : KRun E [] [k] S
  len : S.length ≤ 1000
structure Eg (n : Nat) (E : List (Int × Int)) : Prop where
  rg : ∀ a b, (a, b) ∈ E → (0 ≤ a ∧ a < (n : Int)) ∧ 0 ≤ b ∧ b < (n : Int)
  n8 : n ≤ 8
  n1 : 1 ≤ n
  len : E.length ≤ 100
theorem Gs.eg {n : Nat} {rs : List PyData} (g : Gs n rs) (L : List Int) : Eg n (lsE rs L) := ⟨fun a b h => stE_in (lsE_rf g.rf L) a b h, g.n8, g.n1, by
  have h1 := stE_len (lsE_rf g.rf L)
  have h2 : (rs.filter (livB L)).length ≤ 9 := Nat.le_trans (List.length_filter_le _ _) g.l9
  show (stE (rs.filter (livB L))).length ≤ 100
  omega⟩
theorem ev_kb {F : Fm} {σ : L2.St} {B : Hp} {i : Nat} {te : TE} {v0 : V} {n k : Nat} {E : List (Int × Int)} (hi : σ[i]? = some (some v0)) (hv : Dd K B v0 (adjD E n)) (hk : ED F K te σ B (.int (k : Nat))) (g : Eg n E) (hkn : k < n) : EV F (tCall (spKB K) [] E0 (tCons (tVar i) (tCons te tNil))) σ B (fun v B => ∃ S, KBs E (k : Nat) S ∧ Dd K B v (.list (S.map .int))) := fun B1 e1 H1 j1 Q1 q1 =>
  ⟨v0, hi, hk B1 e1 H1 j1 _ fun v2 B2 H2 s2 j2 g2 => ⟨B2, E, n, k, v0, j2.e, by rw [dd_int g2]; rfl, hv.up (e1.trans s2.bb), fun a b h => (g.rg a b h).2, hkn, by have := g.n8; omega, g.len, fun v' B' H' S s h hm hr hl => q1 v' B' H' (s2.trans s.pure) (j2.pure s) ⟨S, ⟨hm, hr, by have := g.n8; omega⟩, h⟩⟩⟩

def spKU (K : PySem.W.Frag) : Sp := fun vs H Q _ => ∃ (B : Hp) (v0 : V) (n : Nat) (E : List (Int × Int)), vs = [v0] ∧ Ex B H ∧ Dd K B v0 (adjD E n) ∧ Eg n E ∧ ∀ v' B' H' S, Step (fun _ => False) B H B' H' → KBs E 0 S → Dd K B' v' (.list ((0 :: S).map .int)) → Q v' H'

abbrev s_kinds_in_use : Stmt := topS 36
abbrev N_kinds_in_use : List Str := ["steps"]
theorem sc_kinds_in_use : FnScope N_kinds_in_use ["steps"] (defScope s_kinds_in_use) := ⟨rfl, rfl, rfl, by decide +kernel, rfl, by decide +kernel, by decide +kernel⟩
theorem ok_kinds_in_use (F : Fun K "kinds_in_use" "kinds_in_use" s_kinds_in_use f fd) (C_kinds_behind : Callee P w K mg base "kinds_behind" 1 ["steps", "kind"] (spKB K)) : FnOk P w K mg base CX0 2 f fd ["steps"] (spKU K) := by
  refine F.ok sc_kinds_in_use (fun vs H Q E h => ?_) (fun cdv A outer s H vs Q E hr h => ?_)
  · obtain ⟨B, v0, n, E, rfl, _⟩ := h
    rfl
  · obtain ⟨B, v0, n, ED_, rfl, e, hv, g, q⟩ := h
    refine ⟨_, (pss_one (ps_ret (pe_lst (pa_cons pe_int (pa_star (pe_callC C_kinds_behind (hr.mono (by decide)) rfl pass0 (pa_cons (pv 0) (pa_cons pe_int pa_nil))) pa_nil))))), ?_⟩
    have a : At Fm.pure B H B H := At.start (Ok.any e)
    have tl : EVs Fm.pure (tStar K (tCall (spKB K) [] E0 (tCons (tVar 0) (tCons (tC (.int 0)) tNil))) tNil) [some v0] B (fun vs B => ∃ ds, (∃ S, KBs ED_ 0 S ∧ ds = S.map .int) ∧ DdAll K B vs (ds ++ [])) := evs_starL (EV.imp (ev_kb (k := 0) rfl hv (ed_int (i := 0)) g g.n1) fun v _ _ ⟨S, h, d⟩ => ⟨_, ⟨S, h, rfl⟩, d⟩) fun _ _ => eds_nil
    have tc : EVs Fm.pure (tCons (tC (.int 0)) (tStar K (tCall (spKB K) [] E0 (tCons (tVar 0) (tCons (tC (.int 0)) tNil))) tNil)) [some v0] B (fun vs B => ∃ S, KBs ED_ 0 S ∧ DdAll K B vs ((0 :: S).map .int)) := fun B1 e1 H1 j1 Q1 q1 =>
      (ed_int (K := K) (F := Fm.pure) (σ := [some v0]) (B := B) (i := 0)) B1 e1 H1 j1 _ fun v2 B2 H2 s2 j2 g2 => tl B2 (e1.trans s2.bb) H2 j2 _ fun us B3 H3 s3 j3 ⟨ds, ⟨S, hS, eds⟩, gs⟩ => q1 _ B3 H3 (s2.trans s3) j3 ⟨S, hS, .cons (Dd.up g2 s3.bb) (by
        rw [eds, List.append_nil] at gs
        exact gs)⟩
    refine sv_ret (P := fun v B => ∃ S, KBs ED_ 0 S ∧ Dd K B v (.list ((0 :: S).map .int))) a (tc.newL (fun vs B1 _ ⟨S, hS, g⟩ => ?_) fun vs p B1 _ ⟨S, hS, g⟩ hp => ⟨S, hS, .lst upd_same ?_ (g.up (Ex.new hp))⟩) fun v1 B2 H2 e2 a2 ⟨S, hS, h2⟩ => q _ B2 H2 S a2.st hS h2
    · have := hS.len
      rw [g.len, List.length_map, sizeLine_eq]
      show S.length + 1 ≤ _
      omega
    · have := hS.len
      rw [g.len, List.length_map, sizeLine_eq]
      show S.length + 1 ≤ _
      omega


/-! ### _law_below, _law_comes_back, _law_in_use -/
def preB (ds : List PyData) : Prop := ∃ (E : List (Int × Int)) (n : Nat) (k : Int), ds = [.list (E.map toD), .int k, .int (n : Nat)] ∧ E.length ≤ 100 ∧ n ≤ 40
def fBel : List PyData → PyData
  | [.list es, .int k, .int n] => .list ((Gm.turns (es.map ofD) k (n.toNat + 1)).map .int)
  | _ => .none
def fBack2 : List PyData → PyData
  | [.list es, .int k, .int n] => .bool ((Gm.turns (es.map ofD) k (n.toNat + 1)).contains k)
  | _ => .none
theorem fBel_eq (E : List (Int × Int)) (k : Int) (n : Nat) : fBel [.list (E.map toD), .int k, .int (n : Nat)] = .list ((Gm.turns E k (n + 1)).map .int) := by
  show PyData.list ((Gm.turns ((E.map toD).map ofD) k (((n : Nat) : Int).toNat + 1)).map .int) = _
  rw [ofD_toD]
  rfl
theorem fBack2_eq (E : List (Int × Int)) (k : Int) (n : Nat) : fBack2 [.list (E.map toD), .int k, .int (n : Nat)] = .bool ((Gm.turns E k (n + 1)).contains k) := by
  show PyData.bool ((Gm.turns ((E.map toD).map ofD) k (((n : Nat) : Int).toNat + 1)).contains k) = _
  rw [ofD_toD]
  rfl
theorem turns_small {E : List (Int × Int)} {k : Int} {n t : Nat} (hl : E.length ≤ 100) (ht : t ≤ 41) : (Gm.turns E k t).length ≤ 4100 := Nat.le_trans (Gm.turns_len E k t) (Nat.le_trans (Nat.mul_le_mul ht hl) (by decide))

abbrev s_law_below : Stmt := topS 60
abbrev N_law_below : List Str := ["steps", "kind", "kinds", "found", "turn", "pair"]
theorem sc_law_below : FnScope N_law_below ["steps", "kind", "kinds"] (defScope s_law_below) := ⟨rfl, rfl, rfl, by decide +kernel, rfl, by decide +kernel, by decide +kernel⟩
theorem ok_law_below (F : Fun K "_law_below" "_law_below" s_law_below f fd) (T : TC K mg) : FnOk P w K mg base CX0 1 f fd ["steps", "kind", "kinds"] (spF K preB fBel) := by
  refine F.ok sc_law_below (fun vs H Q E h => ?_) (fun cdv A outer s H vs Q E hr h => ?_)
  · obtain ⟨B, ds, e, hd, ⟨E, n, k, rfl, hl, hn⟩, q⟩ := h
    exact hd.len
  · obtain ⟨B, ds, e, hd, ⟨E, n, k, rfl, hl, hn⟩, q⟩ := h
    obtain ⟨v, v2, v3, rfl, hv, hk, hn2⟩ := arg3 hd
    obtain rfl := dd_int hk
    obtain rfl := dd_int hn2
    have hu64 : (A.deeper (envOfC "_law_below" (defScope s_law_below) s.heap.objs.size f cdv)).units + 64 < cLine := hr.units
    refine ⟨_, (pss_cons (ps_set (i := 3) sc_law_below.nd rfl (Or.inr rfl) (pe_lst pa_nil))
      (pss_cons (ps_for PassesOwn.never rfl (pi_range1 rfl T.m_range (pa_cons (pe_op (op_addK K) (pv 2) pe_int) pa_nil)) (pg_name (i := 4) sc_law_below.nd rfl (Or.inl rfl)) (pss_one (ps_set (i := 3) sc_law_below.nd rfl (Or.inr rfl) (pe_op (op_addK K) (pv 3) (pe_lc (own := [("pair", 5)]) rfl sc_law_below.nd (pi_seqK K (pv 0)) (blkOk_by (own := [("pair", 5)]) (N := N_law_below) (sc := defScope s_law_below) (by decide +kernel)) (fun _ _ _ _ _ => pg_name (i := 5) sc_law_below.nd rfl (Or.inl rfl)) (fun _ _ _ _ _ => (pts_one (PW.pt (pw_and (PW.pt (pw_or (pt_cmpR (op_eqDK K hu64) (pe_ix (ix_seqK K) (pv 5) pe_int (fun _ _ => rfl)) (pv 1) (nomark _)) (pw_or1 (pt_cmpR (op_inK K) (pe_ix (ix_seqK K) (pv 5) pe_int (fun _ _ => rfl)) (pv 3) (by rfl))))) (pw_and1 (pt_cmpR (op_ninK K) (pe_ix (ix_seqK K) (pv 5) pe_int (fun _ _ => rfl)) (pv 3) (by rfl))))))) (fun _ _ _ _ _ => (pe_ix (ix_seqK K) (pv 5) pe_int (fun _ _ => rfl))))))))
      (pss_one (ps_ret (pv 3))))), ?_⟩
    have a : At Fm.pure B H B H := At.start (Ok.any e)
    refine qv_asg a (ed_lst (K := K) eds_nil) fun vf B2 H2 e2 a2 hf => ?_
    refine qd_forR (K := K) (n := (n : Nat) + 1) a2 (eds_cons (ed_op (ed_var rfl (.int _)) ed_int rd_add) eds_nil) ⟨by omega, by omega⟩ (fun t σ' B' => ∃ o3 vf, σ' = [some v, some (.int k), some (.int (n : Nat)), some vf, o3, none] ∧ Dd K B' vf (.list ((Gm.turns E k t).map .int))) (fun B3 e3 => ⟨none, vf, rfl, hf.up e3⟩) ?_ ?_
    · rintro Bc t σ' B3 H3 ec ht e3 a3 ⟨o4, vg, rfl, hg⟩
      have ht' : t ≤ 41 := by omega
      have hS : (Gm.turns E k t).length ≤ 4100 := turns_small (n := n) hl ht'
      have eB : Ex B B3 := e2.trans (ec.trans e3)
      refine sv_asg a3 (ed_op (ed_var rfl hg) (ed_lcD (fun d => tq k (Gm.turns E k t) (ofD d)) (fun d => .int (ofD d).2) (ev_seqL (ed_var rfl (hv.up eB))) (by rw [List.length_map]; omega) (fun _ => rfl) (fun d u B4 hm e4 hd4 => ?_) (fun d u B4 hm _ e4 hd4 => ?_)) (rd_addL ?_)) fun v4 B4 H4 e4 a4 h4 => ?_
      · obtain ⟨⟨x, y⟩, _, rfl⟩ := List.mem_map.mp hm
        refine et_and (et_or (et_is (et_cmp (ed_op (K := K) (ed_op (ed_var rfl hd4) ed_int (rd_ixT at2_0)) (ed_var rfl (.int k)) (rd_eqD rfl rfl))) (eqv_int _ _)) fun _ => et_is (et_cmp (ed_op (K := K) (ed_op (ed_var rfl hd4) ed_int (rd_ixT at2_0)) (ed_var rfl (hg.up e4)) (rd_isin (.inl rfl) rfl (flatI _)))) (inD_int _ _)) fun _ => et_is (et_cmp (ed_op (K := K) (ed_op (ed_var rfl hd4) ed_int (rd_ixT at2_1)) (ed_var rfl (hg.up e4)) (rd_notin (.inl rfl) rfl (flatI _)))) (congrArg Bool.not (inD_int _ _))
      · obtain ⟨⟨x, y⟩, _, rfl⟩ := List.mem_map.mp hm
        exact ed_op (ed_var rfl hd4) ed_int (rd_ixT at2_1)
      · rw [lc_E E (tq k (Gm.turns E k t)), List.length_map, List.length_map, List.length_map]
        have := List.length_filter_le (tq k (Gm.turns E k t)) E
        omega
      · rw [lc_E E (tq k (Gm.turns E k t)), ← List.map_append] at h4
        exact ⟨B4, e3.trans e4, a4, _, v4, rfl, h4⟩
    · rintro σ' B3 H3 e3 a3 ⟨o4, vg, rfl, hg⟩
      have hg' : Dd K B3 vg (.list ((Gm.turns E k (n + 1)).map .int)) := hg
      refine sv_ret (P := DD K (.list ((Gm.turns E k (n + 1)).map .int))) a3 (ed_var rfl hg') fun v5 B5 H5 e5 a5 h5 => q _ B5 H5 a5.st ?_
      rw [fBel_eq]
      exact h5

abbrev s_law_comes_back : Stmt := topS 61
abbrev N_law_comes_back : List Str := ["steps", "kind", "kinds"]
theorem sc_law_comes_back : FnScope N_law_comes_back ["steps", "kind", "kinds"] (defScope s_law_comes_back) := ⟨rfl, rfl, rfl, by decide +kernel, rfl, by decide +kernel, by decide +kernel⟩
theorem ok_law_comes_back (F : Fun K "_law_comes_back" "_law_comes_back" s_law_comes_back f fd) (C_law_below : Callee P w K mg base "_law_below" 1 ["steps", "kind", "kinds"] (spF K preB fBel)) : FnOk P w K mg base CX0 2 f fd ["steps", "kind", "kinds"] (spF K preB fBack2) := by
  refine F.ok sc_law_comes_back (fun vs H Q E h => ?_) (fun cdv A outer s H vs Q E hr h => ?_)
  · obtain ⟨B, ds, e, hd, ⟨E, n, k, rfl, hl, hn⟩, q⟩ := h
    exact hd.len
  · obtain ⟨B, ds, e, hd, ⟨E, n, k, rfl, hl, hn⟩, q⟩ := h
    obtain ⟨v, v2, v3, rfl, hv, hk, hn2⟩ := arg3 hd
    obtain rfl := dd_int hk
    obtain rfl := dd_int hn2
    refine ⟨_, (pss_one (ps_ret (pe_cmpR (op_inK K) (pv 1) (pe_callC C_law_below (hr.mono (by decide)) rfl pass0 (pa_cons (pv 0) (pa_cons (pv 1) (pa_cons (pv 2) pa_nil)))) (by rfl)))), ?_⟩
    have a : At Fm.pure B H B H := At.start (Ok.any e)
    refine sv_ret (P := DD K (.bool ((Gm.turns E k (n + 1)).contains k))) a (ed_is (ed_op (ed_var (i := 1) rfl (.int k)) (ed_F (z := .list ((Gm.turns E k (n + 1)).map .int)) (eds_cons (ed_var rfl hv) (eds_cons (ed_var rfl (.int k)) (eds_cons (ed_var rfl (.int _)) eds_nil))) ⟨E, n, k, rfl, hl, hn⟩ (fBel_eq E k n)) (rd_isin (.inl rfl) rfl (flatI _))) (congrArg PyData.bool (inD_int _ _))) fun v5 B5 H5 e5 a5 h5 => q _ B5 H5 a5.st ?_
    rw [fBack2_eq]
    exact h5


theorem filter_take_snoc {rs : List PyData} {i : Nat} {r : PyData} (h : rs[i]? = some r) (p : PyData → Bool) : stE ((rs.take (i + 1)).filter p) = stE ((rs.take i).filter p) ++ (if p r = true then (prtL r).map fun c => (hdI r, c) else []) := by
  rw [take_snoc h, List.filter_append]
  unfold stE
  rw [List.flatMap_append]
  congr 1
  by_cases hp : p r = true
  · rw [if_pos hp, List.filter_cons, if_pos hp]
    show ((prtL r).map fun c => (hdI r, c)) ++ [] = _
    rw [List.append_nil]
  · rw [if_neg hp, List.filter_cons, if_neg hp]
    rfl
def fUse : List PyData → PyData
  | [.tuple [.int n, .tuple rs]] => .list ((0 :: Gm.turns (lsE rs (liveL rs n.toNat)) 0 (n.toNat + 1)).map .int)
  | _ => .none
/-- [(rule[0], part) for part in _law_parts(rule)] -/
theorem row_toD {r : PyData} (d : List PyData) (h : d = (prtL r).map .int) : ((d.filter fun _ => true).map fun x => PyData.tuple [.int (hdI r), x]) = ((prtL r).map fun c => (hdI r, c)).map toD := by
  rw [List.filter_eq_self.mpr (fun _ _ => rfl), h, List.map_map, List.map_map]
  rfl

abbrev s_law_in_use : Stmt := topS 62
abbrev N_law_in_use : List Str := ["grammar", "live", "steps", "rule", "part"]
theorem sc_law_in_use : FnScope N_law_in_use ["grammar"] (defScope s_law_in_use) := ⟨rfl, rfl, rfl, by decide +kernel, rfl, by decide +kernel, by decide +kernel⟩
theorem ok_law_in_use (F : Fun K "_law_in_use" "_law_in_use" s_law_in_use f fd) (T : TC K mg) (C_law_parts : Callee P w K mg base "_law_parts" 1 ["rule"] (spF K preRF fPts)) (C_law_live : Callee P w K mg base "_law_live" 2 ["grammar"] (spF K preGr fLLv)) (C_law_below : Callee P w K mg base "_law_below" 1 ["steps", "kind", "kinds"] (spF K preB fBel)) : FnOk P w K mg base CX0 3 f fd ["grammar"] (spF K preGr fUse) := by
  refine F.ok sc_law_in_use (fun vs H Q E h => ?_) (fun cdv A outer s H vs Q E hr h => ?_)
  · obtain ⟨B, ds, e, hd, ⟨n, rs, rfl, g⟩, q⟩ := h
    exact hd.len
  · obtain ⟨B, ds, e, hd, ⟨n, rs, rfl, g⟩, q⟩ := h
    obtain ⟨vg, rfl, hg⟩ := arg1 hd
    have hu64 : (A.deeper (envOfC "_law_in_use" (defScope s_law_in_use) s.heap.objs.size f cdv)).units + 64 < cLine := hr.units
    refine ⟨_, (pss_cons (ps_set (i := 1) sc_law_in_use.nd rfl (Or.inr rfl) (pe_callC C_law_live (hr.mono (by decide)) rfl pass0 (pa_cons (pv 0) pa_nil)))
      (pss_cons (ps_set (i := 2) sc_law_in_use.nd rfl (Or.inl rfl) (pe_lst pa_nil))
      (pss_cons (ps_for PassesOwn.never rfl (pi_seqK K (pe_ix (ix_seqK K) (pv 0) pe_int (fun _ _ => rfl))) (pg_name (i := 3) sc_law_in_use.nd rfl (Or.inr rfl)) (pss_one (ps_if (pt_cmpR (op_eqDK K hu64) (pe_lc (own := [("part", 4)]) rfl sc_law_in_use.nd (pi_seqK K (pe_callC C_law_parts (hr.mono (by decide)) rfl pass0 (pa_cons (pv 3) pa_nil))) (blkOk_by (own := [("part", 4)]) (N := N_law_in_use) (sc := defScope s_law_in_use) (by decide +kernel)) (fun _ _ _ _ _ => pg_name (i := 4) sc_law_in_use.nd rfl (Or.inl rfl)) (fun _ _ _ _ _ => (pts_one (pt_cmpR (op_ninK K) (pv 4) (pv 1) (by rfl)))) (fun _ _ _ _ _ => (pv 4))) (pe_lst pa_nil) (nomark _)) (pss_one (ps_set (i := 2) sc_law_in_use.nd rfl (Or.inl rfl) (pe_op (op_addK K) (pv 2) (pe_lc (own := [("part", 4)]) rfl sc_law_in_use.nd (pi_seqK K (pe_callC C_law_parts (hr.mono (by decide)) rfl pass0 (pa_cons (pv 3) pa_nil))) (blkOk_by (own := [("part", 4)]) (N := N_law_in_use) (sc := defScope s_law_in_use) (by decide +kernel)) (fun _ _ _ _ _ => pg_name (i := 4) sc_law_in_use.nd rfl (Or.inl rfl)) (fun _ _ _ _ _ => pts_nil) (fun _ _ _ _ _ => (pe_tup (pa_cons (pe_ix (ix_seqK K) (pv 3) pe_int (fun _ _ => rfl)) (pa_cons (pv 4) pa_nil)))))))) pss_nil)))
      (pss_one (ps_ret (pe_op (op_addK K) (pe_lst (pa_cons pe_int pa_nil)) (pe_callC C_law_below (hr.mono (by decide)) rfl pass0 (pa_cons (pv 2) (pa_cons pe_int (pa_cons (pe_ix (ix_seqK K) (pv 0) pe_int (fun _ _ => rfl)) pa_nil)))))))))), ?_⟩
    have n8 := g.n8
    have l9 := g.l9
    have hLl : (liveL rs n).length ≤ 8 := by have := (live_lv (n := n) g.rf (n + 1)).len; show (liveN rs (n + 1)).length ≤ 8; omega
    refine wq_asg (P := DD K (.list ((liveL rs n).map .int))) (ow_nil (F := Fm.pure) (Ok.any e)) (ed_F (eds_cons (ed_var (i := 0) rfl hg) eds_nil) ⟨n, rs, rfl, g⟩ rfl) fun vl B1 H1 w1 e1 hl => ?_
    refine wq_asg w1 (ed_lst (K := K) eds_nil) fun vs B2 H2 w2 e2 hs => ?_
    refine oq_forD (K := K) (F := Fm.pure) (g := gName 3) (ds := rs) w2.k (ev_seqT (ed_op (ed_var (i := 0) rfl (hg.up (e1.trans e2))) ed_int (rd_ixT at2_1))) (fun i σ' B' H' => (∃ vs o3, σ' = [some vg, some vl, some vs, o3, none] ∧ Dd K B' vs (.list ((stE ((rs.take i).filter (livB (liveL rs n)))).map toD))) ∧ Ex B2 B' ∧ Ow Fm.pure B H B' H' []) (fun i σ' B' H' ⟨_, _, w'⟩ => w'.k.e)
      (fun B3 H3 s3 k3 => ⟨⟨vs, none, rfl, hs.up s3.bb⟩, s3.bb, w2.pass s3 k3⟩) (fun Bb i r v σ' B3 H3 hri eb e3 hv hj => ?_) (fun σ' B3 H3 e3 hj => ?_)
    · obtain ⟨⟨vs, o3, rfl, hs⟩, e23, w3⟩ := hj
      have hrf := g.rf r (List.mem_of_getElem? hri)
      have hpl := hrf.parts.1
      have hl3 := hl.up (e2.trans e23)
      dsimp only [gName]
      refine ws_if w3 (b := livB (liveL rs n) r) (et_is (et_cmp (ed_op (ed_lcD (K := K) (ds := (prtL r).map .int) (fun d => !(liveL rs n).contains (numI d)) (fun d => d) (ev_seqT (ed_F (eds_cons (ed_var (i := 3) rfl hv) eds_nil) ⟨r, n, rfl, hrf⟩ rfl)) (by rw [List.length_map]; omega) (fun _ => rfl) (fun d u B8 hm e8 hu => ?_) (fun d u B8 hm _ e8 hu => ed_var (i := 4) rfl hu)) (ed_lst eds_nil) (rd_eqD ?_ rfl))) ?_) (fun hb B5 H5 w5 e5 => ?_) (fun hb B5 H5 w5 e5 => ?_)
      · obtain ⟨x, _, rfl⟩ := List.mem_map.mp hm
        exact et_is (et_cmp (ed_op (ed_var (i := 4) rfl hu) (ed_var (i := 1) rfl (hl3.up e8)) (rd_notin (.inl rfl) rfl (flatI _)))) (congrArg Bool.not (inD_int _ _))
      · rw [ints_filter]
        exact (sm_lst (n := 5) fun d hd => by
          obtain ⟨x, _, rfl⟩ := List.mem_map.mp hd
          exact sm_int).sh
      · rw [ints_filter, eqv_nil, ← liv_emp]
        show List.isEmpty (List.map PyData.int ((prtL r).filter fun x => !(liveL rs n).contains x)) = _
        rw [List.isEmpty_map]
      · have hv5 := hv.up e5
        have hs5 := hs.up e5
        have hsl : (stE ((rs.take i).filter (livB (liveL rs n)))).length ≤ 18 := by
          have h1 := stE_len (n := n) (rows := (rs.take i).filter (livB (liveL rs n))) fun x hx => g.rf x (List.mem_of_mem_take (List.mem_filter.mp hx).1)
          have h2 := List.length_filter_le (livB (liveL rs n)) (rs.take i)
          have h3 : (rs.take i).length ≤ rs.length := by rw [List.length_take]; exact Nat.min_le_right _ _
          omega
        refine ws_asg w5 (ed_op (ed_var (i := 2) rfl hs5) (ed_lcD (K := K) (ds := (prtL r).map .int) (fun _ => true) (fun d => .tuple [.int (hdI r), d]) (ev_seqT (ed_F (eds_cons (ed_var (i := 3) rfl hv5) eds_nil) ⟨r, n, rfl, hrf⟩ rfl)) (by rw [List.length_map]; omega) (fun _ => rfl) (fun d u B8 hm e8 hu => et_yes) (fun d u B8 hm _ e8 hu => ed_tup (eds_cons (ed_hd (i := 3) rfl (hv5.up e8) hrf) (eds_cons (ed_var (i := 4) rfl hu) eds_nil)))) (rd_addL ?_)) fun v6 B6 H6 w6 e6 h6 => ?_
        · rw [row_toD _ rfl, List.length_map, List.length_map, List.length_map]
          omega
        · refine ⟨B6, e3.trans (e5.trans e6), ⟨v6, _, rfl, ?_⟩, e23.trans (e5.trans e6), w6⟩
          rw [filter_take_snoc hri, if_pos hb, List.map_append]
          rw [row_toD _ rfl] at h6
          exact h6
      · refine ⟨B5, e3.trans e5, ⟨vs, _, rfl, ?_⟩, e23.trans e5, w5⟩
        rw [filter_take_snoc hri, if_neg (by rw [hb]; decide), List.append_nil]
        exact hs.up e5
    · obtain ⟨⟨vs, o3, rfl, hs⟩, e23, w3⟩ := hj
      rw [List.take_length] at hs
      have eg := g.eg (liveL rs n)
      have hg3 := hg.up ((e1.trans e2).trans e23)
      refine ws_ret w3 (ed_is (ed_op (ed_lst (K := K) (ds := [.int 0]) (eds_cons ed_int eds_nil)) (ed_F (z := .list ((Gm.turns (lsE rs (liveL rs n)) 0 (n + 1)).map .int)) (eds_cons (ed_var (i := 2) rfl hs) (eds_cons ed_int (eds_cons (ed_op (ed_var (i := 0) rfl hg3) ed_int (rd_ixT at2_0)) eds_nil))) ⟨lsE rs (liveL rs n), n, 0, rfl, eg.len, by omega⟩ (fBel_eq _ _ _)) (rd_addL (by
        have := turns_small (n := n) (k := 0) (t := n + 1) eg.len (by omega)
        rw [List.length_map]
        show 1 + _ ≤ _
        omega))) (by rfl : _ = fUse [.tuple [.int (n : Nat), .tuple rs]])) fun v7 B7 H7 w7 e7 g7 => q _ B7 H7 w7.st g7

end
end K33

namespace K33
open PySem PySem.Spec PyProof.Rows L2 Evl Ex Dx StX
open PySem.PyData (strOk)
section
variable {P : Program} {w : World} {K : PySem.W.Frag} {mg : Str → Option Value} {base : Heap} {f : Addr} {fd : FuncData}

theorem sub_len {α : Type} [DecidableEq α] : ∀ {l L : List α}, l.Nodup → (∀ x ∈ l, x ∈ L) → l.length ≤ L.length
  | [], _, _, _ => Nat.zero_le _
  | a :: l, L, hn, h => by
    have hn' := List.nodup_cons.mp hn
    have ih := sub_len (l := l) (L := L.erase a) hn'.2 fun x hx => (List.mem_erase_of_ne (fun z : x = a => hn'.1 (z ▸ hx))).mpr (h x (List.mem_cons_of_mem _ hx))
    have hm := h a List.mem_cons_self
    rw [List.length_erase_of_mem hm] at ih
    have hp : 0 < L.length := List.length_pos_of_mem hm
    rw [List.length_cons]
    omega


/-! ### orders -/
def Acy (E : List (Int × Int)) : Prop := ∀ k, ¬ Gm.Rch E k k
structure Topo (E : List (Int × Int)) (n : Nat) (O : List Int) : Prop where
  lv : LV n O
  ord : ∀ i k, O[i]? = some k → ∀ b, (k, b) ∈ E → b ∈ O.take i
theorem topo_nil {E : List (Int × Int)} {n : Nat} : Topo E n [] := ⟨lv_nil, fun i k h => by simp at h⟩
theorem Topo.snoc {E : List (Int × Int)} {n : Nat} {O : List Int} (h : Topo E n O) {k : Int} (hk : 0 ≤ k ∧ k < (n : Int)) (hn : k ∉ O) (hb : ∀ b, (k, b) ∈ E → b ∈ O) : Topo E n (O ++ [k]) := by
  refine ⟨⟨?_, fun x hx => ?_⟩, fun i j hj b hE => ?_⟩
  · rw [List.nodup_append]
    refine ⟨h.lv.nd, by simp, fun a ha b hb2 z => ?_⟩
    rw [List.mem_singleton.mp hb2] at z
    exact hn (z ▸ ha)
  · rcases List.mem_append.mp hx with hx | hx
    · exact h.lv.rg x hx
    · rw [List.mem_singleton.mp hx]
      exact hk
  · by_cases hi : i < O.length
    · rw [List.getElem?_append_left hi] at hj
      rw [List.take_append_of_le_length (by omega)]
      exact h.ord i j hj b hE
    · have hlt := (List.getElem?_eq_some_iff.mp hj).1
      rw [List.length_append, List.length_singleton] at hlt
      have ei : i = O.length := by omega
      subst ei
      rw [List.getElem?_append_right (Nat.le_refl _), Nat.sub_self] at hj
      obtain rfl : k = j := by simpa using hj
      rw [List.take_append_of_le_length (Nat.le_refl _), List.take_length]
      exact hb b hE
section
variable {E : List (Int × Int)} {n : Nat} {O : List Int}
theorem least (ac : Acy E) (hE : ∀ a b, (a, b) ∈ E → 0 ≤ b ∧ b < (n : Int)) {k0 : Int} (hk : 0 ≤ k0 ∧ k0 < (n : Int)) (h0 : k0 ∉ O) : ∃ k, (0 ≤ k ∧ k < (n : Int)) ∧ k ∉ O ∧ ∀ b, (k, b) ∈ E → b ∈ O := by
  apply Classical.byContradiction
  intro hno
  have nx : ∀ k : { k : Int // (0 ≤ k ∧ k < (n : Int)) ∧ k ∉ O }, ∃ b : { k : Int // (0 ≤ k ∧ k < (n : Int)) ∧ k ∉ O }, (k.1, b.1) ∈ E := fun k => by
    apply Classical.byContradiction
    intro hb
    refine hno ⟨k.1, k.2.1, k.2.2, fun b hE2 => ?_⟩
    apply Classical.byContradiction
    intro hbO
    exact hb ⟨⟨b, hE _ _ hE2, hbO⟩, hE2⟩
  let sq : Nat → { k : Int // (0 ≤ k ∧ k < (n : Int)) ∧ k ∉ O } := fun i => Nat.rec ⟨k0, hk, h0⟩ (fun _ x => Classical.choose (nx x)) i
  have st : ∀ i, ((sq i).1, (sq (i + 1)).1) ∈ E := fun i => Classical.choose_spec (nx (sq i))
  have rc : ∀ i d, Gm.Rch E (sq i).1 (sq (i + d + 1)).1 := fun i d => by
    induction d with
    | zero => exact .one (st i)
    | succ d ih => exact .more ih (st (i + d + 1))
  have nd : ((List.range (n + 1)).map fun i => (sq i).1).Nodup := List.Pairwise.map _ (fun a b hab z => by
    have := rc a (b - a - 1)
    rw [show a + (b - a - 1) + 1 = b by omega, ← z] at this
    exact ac _ this) List.pairwise_lt_range
  have := Gm.pig n _ nd fun x hx => by
    obtain ⟨i, _, rfl⟩ := List.mem_map.mp hx
    exact (sq i).2.1
  rw [List.length_map, List.length_range] at this
  omega
theorem lv_full (h : LV n O) (hl : O.length < n) : ∃ k : Int, (0 ≤ k ∧ k < (n : Int)) ∧ k ∉ O := by
  apply Classical.byContradiction
  intro hno
  have hall : ∀ k : Nat, k < n → (k : Int) ∈ O := fun k hk => by
    apply Classical.byContradiction
    intro h2
    exact hno ⟨k, ⟨by omega, by omega⟩, h2⟩
  have nd : ((List.range n).map fun i : Nat => (i : Int)).Nodup := List.Pairwise.map _ (fun a b hab z => by
    have : (a : Int) = (b : Int) := z
    omega) List.pairwise_lt_range
  have := sub_len nd (L := O) fun x hx => by
    obtain ⟨i, hi, rfl⟩ := List.mem_map.mp hx
    exact hall i (List.mem_range.mp hi)
  rw [List.length_map, List.length_range] at this
  omega
theorem lv_all (h : LV n O) (hl : n ≤ O.length) {k : Int} (hk : 0 ≤ k ∧ k < (n : Int)) : k ∈ O := by
  apply Classical.byContradiction
  intro hno
  have h2 : LV n (O ++ [k]) := ⟨by
    rw [List.nodup_append]
    refine ⟨h.nd, by simp, fun a ha b hb2 z => ?_⟩
    rw [List.mem_singleton.mp hb2] at z
    exact hno (z ▸ ha), fun x hx => by
    rcases List.mem_append.mp hx with hx | hx
    · exact h.rg x hx
    · rw [List.mem_singleton.mp hx]
      exact hk⟩
  have := h2.len
  rw [List.length_append, List.length_singleton] at this
  omega
theorem topo_ex (ac : Acy E) (hE : ∀ a b, (a, b) ∈ E → 0 ≤ b ∧ b < (n : Int)) : ∃ O, Topo E n O ∧ O.length = n := by
  have go : ∀ d O, Topo E n O → O.length + d = n → ∃ O, Topo E n O ∧ O.length = n := fun d => by
    induction d with
    | zero => exact fun O h hl => ⟨O, h, by omega⟩
    | succ d ih =>
      intro O h hl
      obtain ⟨k0, hk0, hn0⟩ := lv_full h.lv (by omega)
      obtain ⟨k, hk, hn, hb⟩ := least ac hE hk0 hn0
      exact ih _ (h.snoc hk hn hb) (by rw [List.length_append, List.length_singleton]; omega)
  exact go n [] topo_nil (by simp)
end
/-! ### kinds_in_order -/
def okB (E : List (Int × Int)) (O : List Int) (k : Int) : Bool := !O.contains k && (adj E k).all O.contains
def stO (E : List (Int × Int)) (O : List Int) (k : Int) : List Int := if okB E O k = true then O ++ [k] else O
def roO (E : List (Int × Int)) (O : List Int) (n : Nat) : List Int := (List.range n).foldl (fun O k => stO E O (k : Nat)) O
theorem roO_succ (E : List (Int × Int)) (O : List Int) (n : Nat) : roO E O (n + 1) = stO E (roO E O n) (n : Nat) := by
  unfold roO
  rw [List.range_succ, List.foldl_append]
  rfl
theorem stO_topo {E : List (Int × Int)} {n : Nat} {O : List Int} {k : Int} (h : Topo E n O) (hk : 0 ≤ k ∧ k < (n : Int)) : Topo E n (stO E O k) := by
  unfold stO
  split
  · rename_i hb
    unfold okB at hb
    rw [Bool.and_eq_true, Bool.not_eq_true', List.all_eq_true] at hb
    exact h.snoc hk (fun z => by rw [List.contains_iff_mem.mpr z] at hb; exact absurd hb.1 (by decide)) fun b hE => List.contains_iff_mem.mp (hb.2 b (mem_adj.mpr hE))
  · exact h
theorem stO_sub {E : List (Int × Int)} {O : List Int} {k x : Int} (h : x ∈ O) : x ∈ stO E O k := by
  unfold stO
  split
  · exact List.mem_append_left _ h
  · exact h
theorem roO_topo {E : List (Int × Int)} {n : Nat} {O : List Int} (h : Topo E n O) : ∀ i, i ≤ n → Topo E n (roO E O i)
  | 0, _ => h
  | i + 1, hi => by
    rw [roO_succ]
    exact stO_topo (roO_topo h i (by omega)) ⟨by omega, by omega⟩
theorem roO_sub {E : List (Int × Int)} {O : List Int} {x : Int} (h : x ∈ O) : ∀ i, x ∈ roO E O i
  | 0 => h
  | i + 1 => by
    rw [roO_succ]
    exact stO_sub (roO_sub h i)
theorem roO_adds {E : List (Int × Int)} {n : Nat} {O : List Int} (ac : Acy E) (hE : ∀ a b, (a, b) ∈ E → 0 ≤ b ∧ b < (n : Int)) (h : Topo E n O) (hl : O.length < n) : O.length < (roO E O n).length := by
  obtain ⟨k0, hk0, hn0⟩ := lv_full h.lv hl
  obtain ⟨k, hk, hn, hb⟩ := least ac hE hk0 hn0
  have en : ((k.toNat : Nat) : Int) = k := by omega
  have hin : k ∈ roO E O (k.toNat + 1) := by
    rw [roO_succ, en]
    by_cases hm : k ∈ roO E O k.toNat
    · exact stO_sub hm
    · unfold stO okB
      rw [if_pos]
      · exact List.mem_append_right _ (List.mem_singleton.mpr rfl)
      · rw [Bool.and_eq_true, Bool.not_eq_true', List.all_eq_true]
        refine ⟨?_, fun b hb2 => List.contains_iff_mem.mpr (roO_sub (hb b (mem_adj.mp hb2)) _)⟩
        cases hc : (roO E O k.toNat).contains k with
        | false => rfl
        | true => exact absurd (List.contains_iff_mem.mp hc) hm
  have later : ∀ d, k ∈ roO E O (k.toNat + 1 + d) := fun d => by
    induction d with
    | zero => exact hin
    | succ d ih =>
      rw [show k.toNat + 1 + (d + 1) = (k.toNat + 1 + d) + 1 by omega, roO_succ]
      exact stO_sub ih
  have hk2 : k ∈ roO E O n := by
    have := later (n - (k.toNat + 1))
    rw [show k.toNat + 1 + (n - (k.toNat + 1)) = n by omega] at this
    exact this
  have nd : (O ++ [k]).Nodup := by
    rw [List.nodup_append]
    refine ⟨h.lv.nd, by simp, fun a ha b hb2 z => ?_⟩
    rw [List.mem_singleton.mp hb2] at z
    exact hn (z ▸ ha)
  have := sub_len nd (L := roO E O n) fun x hx => by
    rcases List.mem_append.mp hx with hx | hx
    · exact roO_sub hx n
    · rw [List.mem_singleton.mp hx]
      exact hk2
  rw [List.length_append, List.length_singleton] at this
  omega
def spKO (K : PySem.W.Frag) : Sp := fun vs H Q _ => ∃ (B : Hp) (v0 : V) (n : Nat) (E : List (Int × Int)), vs = [v0] ∧ Ex B H ∧ Dd K B v0 (adjD E n) ∧ Eg n E ∧ Acy E ∧ ∀ v' B' H' O, Step (fun _ => False) B H B' H' → Topo E n O → O.length = n → Dd K B' v' (.list (O.map .int)) → Q v' H'
theorem adjD_at {E : List (Int × Int)} {n i : Nat} (h : i < n) : atI ((List.range n).map fun k => PyData.list ((adj E (k : Nat)).map .int)) ((i : Nat) : Int) = some (.list ((adj E (i : Nat)).map .int)) := atI_nat (by rw [List.getElem?_map, List.getElem?_range h]; rfl)

abbrev s_kinds_in_order : Stmt := topS 14
abbrev N_kinds_in_order : List Str := ["steps", "order", "kind", "one"]
theorem sc_kinds_in_order : FnScope N_kinds_in_order ["steps"] (defScope s_kinds_in_order) := ⟨rfl, rfl, rfl, by decide +kernel, rfl, by decide +kernel, by decide +kernel⟩
theorem ok_kinds_in_order (F : Fun K "kinds_in_order" "kinds_in_order" s_kinds_in_order f fd) (T : TC K mg) : FnOk P w K mg base CX0 1 f fd ["steps"] (spKO K) := by
  refine F.ok sc_kinds_in_order (fun vs H Q E h => ?_) (fun cdv A outer s H vs Q E hr h => ?_)
  · obtain ⟨B, v0, n, E, rfl, _⟩ := h
    rfl
  · obtain ⟨B, v0, n, ED_, rfl, e, hv, g, ac, q⟩ := h
    refine ⟨_, (pss_cons (ps_set (i := 1) sc_kinds_in_order.nd rfl (Or.inr rfl) (pe_lst pa_nil))
      (pss_cons (ps_while PassesOwn.never (pt_cmpR op_lt (pe_callB (call_lenK K) (by rfl) T.m_len bt_len (pa_cons (pv 1) pa_nil)) (pe_callB (call_lenK K) (by rfl) T.m_len bt_len (pa_cons (pv 0) pa_nil)) (nomark _)) (pss_one (ps_for PassesOwn.never rfl (pi_range1 rfl T.m_range (pa_cons (pe_callB (call_lenK K) (by rfl) T.m_len bt_len (pa_cons (pv 0) pa_nil)) pa_nil)) (pg_name (i := 2) sc_kinds_in_order.nd rfl (Or.inl rfl)) (pss_one (ps_if (PW.pt (pw_and (pt_cmpR (op_ninK K) (pv 2) (pv 1) (by rfl)) (pw_and1 (pt_val (pe_callB (cr_allK K) (by rfl) T.m_all bt_all (pa_cons (pe_lc (own := [("one", 3)]) rfl sc_kinds_in_order.nd (pi_seqK K (pe_ix (ix_seqK K) (pv 0) (pv 2) (fun _ _ => rfl))) (blkOk_by (own := [("one", 3)]) (N := N_kinds_in_order) (sc := defScope s_kinds_in_order) (by decide +kernel)) (fun _ _ _ _ _ => pg_name (i := 3) sc_kinds_in_order.nd rfl (Or.inl rfl)) (fun _ _ _ _ _ => pts_nil) (fun _ _ _ _ _ => (pe_cmpR (op_inK K) (pv 3) (pv 1) (by rfl)))) pa_nil)))))) (pss_one (ps_expr (pe_bm PySem.F.plainAttrs_list PySem.F.slot_list_append PySem.F.type_list_append mt_append (pv 1) (pa_cons (pv 2) pa_nil)))) pss_nil)))))
      (pss_one (ps_ret (pv 1))))), ?_⟩
    have n8 := g.n8
    have hE := fun a b h => (g.rg a b h).2
    have lenV : ∀ {F : Fm} {σ : L2.St} {B1 : Hp}, σ[0]? = some (some v0) → Ex B B1 → ED F K (tCB (fun xs H Q => ∃ x n, xs = [x] ∧ LenV K x H n ∧ Q (.int (n : Nat)) H) (tCons (tVar 0) tNil)) σ B1 (.int (n : Nat)) := fun h1 h2 => ed_is (ev_cb (eds_cons (ed_var h1 (hv.up h2)) eds_nil) (rc_len rfl)) (by show PyData.int ((((List.range n).map fun k => PyData.list ((adj ED_ (k : Nat)).map .int)).length : Nat) : Int) = _; rw [List.length_map, List.length_range])
    refine wq_lst (i := 1) (ow_nil (F := Fm.pure) (Ok.any e)) fun na w1 => ?_
    refine ⟨fun m σ' H' => ∃ (o2 : Option V) (O : List Int) (B' : Hp), σ' = [some v0, some (.ref na), o2, none] ∧ Ex B B' ∧ Ow Fm.pure B H B' H' [(na, .lst (O.map V.int))] ∧ Topo ED_ n O ∧ m = n - O.length, ⟨_, none, [], B, rfl, Ex.refl B, w1, topo_nil, rfl⟩, ?_⟩
    rintro m σ' H' ⟨o2, O, B', rfl, eB, w, tp, rfl⟩
    have hll := tp.lv.len
    have lenO : ∀ {F : Fm} {σ : L2.St} {B1 : Hp}, σ[1]? = some (some (.ref na)) → Dd K B1 (.ref na) (.list (O.map .int)) → ED F K (tCB (fun xs H Q => ∃ x n, xs = [x] ∧ LenV K x H n ∧ Q (.int (n : Nat)) H) (tCons (tVar 1) tNil)) σ B1 (.int ((O.length : Nat) : Int)) := fun h1 h2 => ed_is (ev_cb (eds_cons (ed_var h1 h2) eds_nil) (rc_len rfl)) (by show PyData.int (((O.map PyData.int).length : Nat) : Int) = _; rw [List.length_map])
    have tst : ETt Fm.pure (tTest (tOp (rI0 fun i j => .bl (decide (i < j))) (tCB (fun xs H Q => ∃ x n, xs = [x] ∧ LenV K x H n ∧ Q (.int (n : Nat)) H) (tCons (tVar 1) tNil)) (tCB (fun xs H Q => ∃ x n, xs = [x] ∧ LenV K x H n ∧ Q (.int (n : Nat)) H) (tCons (tVar 0) tNil)))) [some v0, some (.ref na), o2, none] (shutL B' [(na, .lst (O.map V.int))]) (decide (((O.length : Nat) : Int) < (n : Nat))) := et_cmp (ed_op (lenO rfl (own_ints w (by omega))) (lenV rfl (eB.trans w.shut.2.1)) rd_lt)
    refine tst _ (Ex.refl _) H' w.shut.1.k _ fun B5 H5 s5 k5 => ?_
    have w5 := w.look s5 k5
    by_cases hlt : ((O.length : Nat) : Int) < (n : Nat)
    · rw [decide_eq_true hlt, if_pos rfl]
      refine ⟨_, fun σ2 H3 q => q, ?_⟩
      refine os_rng1 (K := K) (F := Fm.pure) (n := (n : Nat)) (j := 2) w5.k (eds_cons (lenV rfl eB) eds_nil) (by omega) (fun i σ' B7 H7 => (∃ o2, σ' = [some v0, some (.ref na), o2, none]) ∧ Ex B' B7 ∧ Ow Fm.pure B H B7 H7 [(na, .lst ((roO ED_ O i).map V.int))])
        (fun B7 H7 s7 k7 => ⟨⟨_, rfl⟩, s7.bb, w5.pass s7 k7⟩) (fun Bc i σ' B7 H7 ec hi e7 hj => ?_) (fun σ' B7 H7 e7 hj => ?_)
      · obtain ⟨⟨o2, rfl⟩, e67, w7⟩ := hj
        have hi' : i < n := by omega
        have tp7 := roO_topo tp i (by omega)
        have hl7 := tp7.lv.len
        have d7 := own_ints (K := K) w7 (by omega)
        have e7s := w7.shut.2.1
        have hal : (adj ED_ (i : Nat)).length ≤ 100 := Nat.le_trans (adj_len _ _) g.len
        refine wl_if w7 (b := okB ED_ (roO ED_ O i) (i : Nat)) (et_and (et_is (et_cmp (ed_op (ed_var (i := 2) rfl (.int (i : Nat))) (ed_var (i := 1) rfl d7) (rd_notin (.inl rfl) rfl (flatI _)))) (congrArg Bool.not (inD_int _ _))) fun _ => et_is (et_val (ev_cb (eds_cons (ed_lcD (K := K) (ds := (adj ED_ (i : Nat)).map .int) (fun _ => true) (fun d => .bool ((roO ED_ O i).contains (numI d))) (ev_seqL (ed_op (ed_var (i := 0) rfl (hv.up ((eB.trans e67).trans e7s))) (ed_var (i := 2) rfl (.int (i : Nat))) (rd_ixL (adjD_at hi')))) (by rw [List.length_map]; omega) (fun _ => rfl) (fun d u B8 hm e8 hu => et_yes) (fun d u B8 hm _ e8 hu => ?_)) eds_nil) (rc_all' (bs := (adj ED_ (i : Nat)).map (roO ED_ O i).contains) ?_))) ?_) (fun hb H8 w8 => ?_) (fun hb H8 w8 => ?_)
        · obtain ⟨x, _, rfl⟩ := List.mem_map.mp hm
          exact ed_is (ed_op (ed_var (i := 3) rfl hu) (ed_var (i := 1) rfl (d7.up e8)) (rd_isin (.inl rfl) rfl (flatI _))) (congrArg PyData.bool (inD_int _ _))
        · rw [List.filter_eq_self.mpr (fun _ _ => rfl), List.map_map, List.map_map]
          rfl
        · rw [List.all_map]
          rfl
        · refine ws_app w8 (i := 1) rfl (ed_var (i := 2) rfl (.int (i : Nat))) (by rw [List.length_map]; omega) fun v9 B9 H9 w9 e9 g9 => ?_
          obtain rfl := dd_int g9
          refine ⟨B9, e7.trans e9, ⟨_, rfl⟩, e67.trans e9, ?_⟩
          rw [roO_succ, show stO ED_ (roO ED_ O i) (i : Nat) = roO ED_ O i ++ [(i : Int)] from if_pos hb, List.map_append]
          exact w9
        · refine ⟨B7, e7, ⟨_, rfl⟩, e67, ?_⟩
          rw [roO_succ, show stO ED_ (roO ED_ O i) (i : Nat) = roO ED_ O i from if_neg (by rw [hb]; decide)]
          exact w8
      · obtain ⟨⟨o2, rfl⟩, e67, w7⟩ := hj
        have w7 : Ow Fm.pure B H B7 H7 [(na, .lst ((roO ED_ O n).map V.int))] := w7
        have hg := roO_adds ac hE tp (by omega)
        have hl2 := (roO_topo tp n (Nat.le_refl _)).lv.len
        exact ⟨n - (roO ED_ O n).length, by omega, _, _, B7, rfl, eB.trans e67, w7, roO_topo tp n (Nat.le_refl _), rfl⟩
    · rw [decide_eq_false hlt, if_neg (by decide)]
      obtain ⟨w6, e6, d6⟩ := w5.dropL (ds := O.map .int) (K := K) (ddAll_mkI _) (by rw [List.length_map]; omega)
      refine ws_ret w6 (ed_var (i := 1) rfl d6) fun v7 B7 H7 w7 e7 g7 => q _ B7 H7 O w7.st tp (by omega) g7

end
end K33

namespace K33
open PySem PySem.Spec PyProof.Rows L2 Evl Ex Dx StX
open PySem.PyData (strOk)
section
variable {P : Program} {w : World} {K : PySem.W.Frag} {mg : Str → Option Value} {base : Heap} {f : Addr} {fd : FuncData}


/-! ### what lengths are -/
def rchB (E : List (Int × Int)) (n : Nat) (k j : Int) : Bool := (Gm.turns E k (n + 1)).contains j
section
variable {E : List (Int × Int)} {n : Nat} {k j : Int}
theorem rch_iff (g : Eg n E) : rchB E n k j = true ↔ Gm.Rch E k j := by
  unfold rchB
  rw [List.contains_iff_mem, Gm.turns_all fun a b h => (g.rg a b h).2]
theorem rch_trans {E : List (Int × Int)} {a b c : Int} (h1 : Gm.Rch E a b) (h2 : Gm.Rch E b c) : Gm.Rch E a c := by
  induction h2 with
  | one e => exact .more h1 e
  | more _ e ih => exact .more ih e
theorem rch_in (g : Eg n E) (h : Gm.Rch E k j) : 0 ≤ j ∧ j < (n : Int) := by
  cases h with
  | one e => exact (g.rg _ _ e).2
  | more _ e => exact (g.rg _ _ e).2
theorem rch_src (g : Eg n E) (h : Gm.Rch E k j) : ∃ b, (k, b) ∈ E := by
  induction h with
  | one e => exact ⟨_, e⟩
  | more _ _ ih => exact ih
def wdB (E : List (Int × Int)) (n : Nat) (k : Int) : Bool := rchB E n k k || (List.range n).any fun j : Nat => rchB E n k (j : Int) && rchB E n (j : Int) (j : Int)
theorem wd_iff (g : Eg n E) : wdB E n k = true ↔ ∃ j, (j = k ∨ Gm.Rch E k j) ∧ Gm.Rch E j j := by
  unfold wdB
  rw [Bool.or_eq_true, List.any_eq_true, rch_iff g]
  constructor
  · rintro (h | ⟨j, _, h⟩)
    · exact ⟨k, .inl rfl, h⟩
    · rw [Bool.and_eq_true, rch_iff g, rch_iff g] at h
      exact ⟨j, .inr h.1, h.2⟩
  · rintro ⟨j, rfl | h, h2⟩
    · exact .inl h2
    · have hj := rch_in g h
      have en : ((j.toNat : Nat) : Int) = j := by omega
      refine .inr ⟨j.toNat, List.mem_range.mpr (by omega), ?_⟩
      rw [en, Bool.and_eq_true, rch_iff g, rch_iff g]
      exact ⟨h, h2⟩
theorem wd_step (g : Eg n E) (he : (k, j) ∈ E) (h : wdB E n j = true) : wdB E n k = true := by
  obtain ⟨i, hi, h2⟩ := (wd_iff g).mp h
  refine (wd_iff g).mpr ⟨i, .inr ?_, h2⟩
  rcases hi with rfl | hi
  · exact .one he
  · exact rch_trans (.one he) hi
end
section
variable {n : Nat} {rs : List PyData}
def gdL (n : Nat) (rs : List PyData) : List PyData := rs.filter (livB (liveL rs n))
abbrev lE (n : Nat) (rs : List PyData) : List (Int × Int) := lsE rs (liveL rs n)
theorem gd_rf (g : Gs n rs) : ∀ r ∈ gdL n rs, RF n r := lsE_rf g.rf _
theorem live_len (g : Gs n rs) : (liveL rs n).length ≤ 8 := Nat.le_trans (live_lv (n := n) g.rf (n + 1)).len g.n8
theorem live_lvL (g : Gs n rs) : LV n (liveL rs n) := live_lv g.rf (n + 1)
/-- a rule all of whose parts are live has a live head -/
theorem gd_head (g : Gs n rs) {r : PyData} (hr : r ∈ gdL n rs) : hdI r ∈ liveL rs n := by
  obtain ⟨hm, hl⟩ := List.mem_filter.mp hr
  obtain ⟨i, hi⟩ := List.getElem?_of_mem hm
  have st := live_stable (n := n) g.rf
  have same : ∀ j, (rs.take j).foldl stepP (liveL rs n) = liveL rs n := fun j => by
    obtain ⟨S, e⟩ := fold_pre (rs.take j) (liveL rs n)
    obtain ⟨S2, e2⟩ := fold_pre (rs.drop j) ((rs.take j).foldl stepP (liveL rs n))
    rw [← List.foldl_append, List.take_append_drop] at e2
    have e3 : passL rs (liveL rs n) = ((liveL rs n ++ S) ++ S2) := by rw [← e]; exact e2
    rw [st] at e3
    have := congrArg List.length e3
    rw [List.length_append, List.length_append] at this
    rw [e, List.eq_nil_of_length_eq_zero (show S.length = 0 by omega), List.append_nil]
  have h1 := foldT hi (liveL rs n)
  rw [same, same] at h1
  apply Classical.byContradiction
  intro hno
  have hc : (liveL rs n).contains (hdI r) = false := by
    cases h : (liveL rs n).contains (hdI r) with
    | false => rfl
    | true => exact absurd (List.contains_iff_mem.mp h) hno
  rw [step_y (by rw [hc, hl]; rfl)] at h1
  have := congrArg List.length h1
  rw [List.length_append, List.length_singleton] at this
  omega
theorem liv_mono {L L' : List Int} {r : PyData} (h : ∀ x ∈ L, x ∈ L') (hl : livB L r = true) : livB L' r = true := by
  unfold livB at hl ⊢
  rw [List.all_eq_true] at hl ⊢
  exact fun x hx => List.contains_iff_mem.mpr (h x (List.contains_iff_mem.mp (hl x hx)))
theorem live_sub (g : Gs n rs) : ∀ t, ∀ x ∈ liveN rs t, x ∈ liveL rs n := fun t x hx => by
  have mono : ∀ s d, ∀ x ∈ liveN rs s, x ∈ liveN rs (s + d) := fun s d => by
    induction d with
    | zero => exact fun x hx => hx
    | succ d ih =>
      intro x hx
      obtain ⟨S, e⟩ := fold_pre rs (liveN rs (s + d))
      show x ∈ rs.foldl stepP (liveN rs (s + d))
      rw [e]
      exact List.mem_append_left _ (ih x hx)
  have h := mono t (n + 1) x hx
  have e := live_later (s := n + 1) (live_stable (n := n) g.rf) t
  rw [Nat.add_comm] at h
  rw [e] at h
  exact h
/-- a live kind is the head of a rule all of whose parts are live -/
theorem live_rule (g : Gs n rs) {k : Int} (hk : k ∈ liveL rs n) : ∃ r ∈ gdL n rs, hdI r = k := by
  have fold : ∀ (l : List PyData) (L : List Int), (∀ r ∈ l, r ∈ rs) → (∀ x ∈ l.foldl stepP L, x ∈ liveL rs n) → ∀ k ∈ l.foldl stepP L, k ∈ L ∨ ∃ r ∈ gdL n rs, hdI r = k := fun l => by
    induction l with
    | nil => exact fun L _ _ k hk => .inl hk
    | cons r l ih =>
      intro L hm hs k hk
      rcases ih (stepP L r) (fun x hx => hm x (List.mem_cons_of_mem _ hx)) hs k hk with h | h
      · by_cases hc : (!L.contains (hdI r) && livB L r) = true
        · rw [step_y hc] at h
          rcases List.mem_append.mp h with h | h
          · exact .inl h
          · refine .inr ⟨r, List.mem_filter.mpr ⟨hm r List.mem_cons_self, ?_⟩, (List.mem_singleton.mp h).symm⟩
            refine liv_mono (L := L) (fun x hx => hs x ?_) (by rw [Bool.and_eq_true] at hc; exact hc.2)
            obtain ⟨S, e⟩ := fold_pre l (stepP L r)
            show x ∈ l.foldl stepP (stepP L r)
            rw [e, step_y hc]
            exact List.mem_append_left _ (List.mem_append_left _ hx)
        · rw [step_n (by simpa using hc)] at h
          exact .inl h
      · exact .inr h
  have all : ∀ t, ∀ k ∈ liveN rs t, ∃ r ∈ gdL n rs, hdI r = k := fun t => by
    induction t with
    | zero => exact fun k hk => nomatch hk
    | succ t ih =>
      intro k hk
      rcases fold rs (liveN rs t) (fun r h => h) (live_sub g (t + 1)) k hk with h | h
      · exact ih k h
      · exact h
  exact all (n + 1) k hk
/-- words of a rule -/
def szZ (x : Int → Int) (r : PyData) : Int := if (prtL r).isEmpty = true then 1 else ((prtL r).map x).sum
theorem sz_congr {x y : Int → Int} {r : PyData} (h : ∀ p ∈ prtL r, x p = y p) : szZ x r = szZ y r := by
  unfold szZ
  rw [List.map_congr_left h]
/-- live, and no endless kind behind it -/
def bnd (n : Nat) (rs : List PyData) (k : Int) : Prop := (0 ≤ k ∧ k < (n : Int)) ∧ k ∈ liveL rs n ∧ wdB (lE n rs) n k = false
structure LenS (n : Nat) (rs : List PyData) (x : Int → Int) : Prop where
  dead : ∀ k, (0 ≤ k ∧ k < (n : Int)) → k ∉ liveL rs n → x k = -1
  wide : ∀ k, (0 ≤ k ∧ k < (n : Int)) → k ∈ liveL rs n → wdB (lE n rs) n k = true → x k = -2
  top : ∀ k, bnd n rs k → (∃ r ∈ gdL n rs, hdI r = k ∧ szZ x r = x k) ∧ ∀ r ∈ gdL n rs, hdI r = k → szZ x r ≤ x k
theorem gd_edge {r : PyData} (hr : r ∈ gdL n rs) {p : Int} (hp : p ∈ prtL r) : (hdI r, p) ∈ lE n rs := stE_mem.mpr ⟨r, hr, rfl, hp⟩
theorem bnd_part (g : Gs n rs) {r : PyData} (hr : r ∈ gdL n rs) (hb : bnd n rs (hdI r)) {p : Int} (hp : p ∈ prtL r) : bnd n rs p := by
  refine ⟨(gd_rf g r hr).parts.2 p hp, ?_, ?_⟩
  · have := (List.mem_filter.mp hr).2
    unfold livB at this
    exact List.contains_iff_mem.mp (List.all_eq_true.mp this p hp)
  · cases h : wdB (lE n rs) n p with
    | false => rfl
    | true =>
      have := wd_step (g.eg _) (gd_edge hr hp) h
      rw [hb.2.2] at this
      cases this
/-- the steps from kinds that are bounded -/
def bE (n : Nat) (rs : List PyData) : List (Int × Int) := (lE n rs).filter fun p => (liveL rs n).contains p.1 && !wdB (lE n rs) n p.1
theorem bE_mem {a b : Int} : (a, b) ∈ bE n rs ↔ (a, b) ∈ lE n rs ∧ a ∈ liveL rs n ∧ wdB (lE n rs) n a = false := by
  unfold bE
  rw [List.mem_filter, Bool.and_eq_true, List.contains_iff_mem, Bool.not_eq_true']
theorem bE_eg (g : Gs n rs) : Eg n (bE n rs) := ⟨fun a b h => (g.eg _).rg a b (bE_mem.mp h).1, g.n8, g.n1, Nat.le_trans (List.length_filter_le _ _) (g.eg _).len⟩
theorem bE_acy (g : Gs n rs) : Acy (bE n rs) := fun k h => by
  obtain ⟨b, hb⟩ := rch_src (bE_eg g) h
  have h2 := (bE_mem.mp hb).2.2
  have h3 : Gm.Rch (lE n rs) k k := Gm.Rch.mono (fun q hq => (List.mem_filter.mp hq).1) h
  rw [(wd_iff (g.eg _)).mpr ⟨k, .inl rfl, h3⟩] at h2
  cases h2
theorem bnd_edge (g : Gs n rs) {r : PyData} (hr : r ∈ gdL n rs) (hb : bnd n rs (hdI r)) {p : Int} (hp : p ∈ prtL r) : (hdI r, p) ∈ bE n rs := bE_mem.mpr ⟨gd_edge hr hp, hb.2.1, hb.2.2⟩
theorem LenS.uniq (g : Gs n rs) {x y : Int → Int} (hx : LenS n rs x) (hy : LenS n rs y) : ∀ k, (0 ≤ k ∧ k < (n : Int)) → x k = y k := by
  obtain ⟨O, tp, hO⟩ := topo_ex (bE_acy g) fun a b h => ((bE_eg g).rg a b h).2
  have ot : ∀ k, (0 ≤ k ∧ k < (n : Int)) → ¬ bnd n rs k → x k = y k := fun k hk hnb => by
    by_cases hl : k ∈ liveL rs n
    · have hw : wdB (lE n rs) n k = true := by
        cases h : wdB (lE n rs) n k with
        | true => rfl
        | false => exact absurd ⟨hk, hl, h⟩ hnb
      rw [hx.wide k hk hl hw, hy.wide k hk hl hw]
    · rw [hx.dead k hk hl, hy.dead k hk hl]
  have go : ∀ i, ∀ k ∈ O.take i, x k = y k := fun i => by
    induction i with
    | zero => exact fun k hk => by rw [List.take_zero] at hk; cases hk
    | succ i ih =>
      intro k hk
      by_cases hi : i < O.length
      · rw [List.take_succ_eq_append_getElem hi] at hk
        rcases List.mem_append.mp hk with hk | hk
        · exact ih k hk
        · have hki : O[i]? = some k := by rw [List.getElem?_eq_getElem hi, List.mem_singleton.mp hk]
          have hkr := tp.lv.rg k (List.mem_of_getElem? hki)
          by_cases hb : bnd n rs k
          · have same : ∀ r ∈ gdL n rs, hdI r = k → szZ x r = szZ y r := fun r hr he => sz_congr fun p hp => ih p (tp.ord i k hki p (he ▸ bnd_edge g hr (he ▸ hb) hp))
            obtain ⟨⟨r, hr, he, h1⟩, h2⟩ := hx.top k hb
            obtain ⟨⟨r', hr', he', h1'⟩, h2'⟩ := hy.top k hb
            have a1 := h2' r hr he
            have a2 := h2 r' hr' he'
            rw [← same r hr he] at a1
            rw [same r' hr' he'] at a2
            omega
          · exact ot k hkr hb
      · rw [List.take_of_length_le (by omega)] at hk
        exact ih k (by rw [List.take_of_length_le (by omega)]; exact hk)
  exact fun k hk => go n k (by rw [← hO, List.take_length]; exact lv_all tp.lv (by omega) hk)
theorem max_ex : ∀ {ns : List Int}, ns ≠ [] → ∃ M ∈ ns, ∀ a ∈ ns, a ≤ M
  | [], h => absurd rfl h
  | [a], _ => ⟨a, List.mem_singleton.mpr rfl, fun b hb => by rw [List.mem_singleton.mp hb]; exact Int.le_refl a⟩
  | a :: b :: l, _ => by
    obtain ⟨M, hM, h⟩ := max_ex (ns := b :: l) fun z => nomatch z
    by_cases hc : a ≤ M
    · exact ⟨M, List.mem_cons_of_mem _ hM, fun y hy => by
        rcases List.mem_cons.mp hy with rfl | hy
        · exact hc
        · exact h y hy⟩
    · exact ⟨a, List.mem_cons_self, fun y hy => by
        rcases List.mem_cons.mp hy with rfl | hy
        · exact Int.le_refl _
        · have := h y hy
          omega⟩
end
/-! ### words_by -/
def spWB (K : PySem.W.Frag) : Sp := fun vs H Q _ => ∃ (B : Hp) (vr vd : V) (r : PyData) (n : Nat) (m : IMp) (x : Int → Int), vs = [vr, vd] ∧ Ex B H ∧ Dd K B vr r ∧ RF n r ∧ DicI m vd B ∧ (∀ p ∈ prtL r, m p = some (x p)) ∧ ∀ B' H', Step (fun _ => False) B H B' H' → Q (.int (szZ x r)) H'

abbrev s_words_by : Stmt := topS 31
abbrev N_words_by : List Str := ["rule", "told", "part"]
theorem sc_words_by : FnScope N_words_by ["rule", "told"] (defScope s_words_by) := ⟨rfl, rfl, rfl, by decide +kernel, rfl, by decide +kernel, by decide +kernel⟩
theorem ok_words_by (F : Fun K "words_by" "words_by" s_words_by f fd) (T : TC K mg) (m_sum : mg "sum" = none) (C_part_kinds : Callee P w K mg base "part_kinds" 1 ["rule"] (spF K preRF fPts)) : FnOk P w K mg base CX0 2 f fd ["rule", "told"] (spWB K) := by
  refine F.ok sc_words_by (fun vs H Q E h => ?_) (fun cdv A outer s H vs Q E hr h => ?_)
  · obtain ⟨B, vr, vd, r, n, m, x, rfl, _⟩ := h
    rfl
  · obtain ⟨B, vr, vd, r, n, m, x, rfl, e, hv, hr0, hd, hm, q⟩ := h
    have hu64 : (A.deeper (envOfC "words_by" (defScope s_words_by) s.heap.objs.size f cdv)).units + 64 < cLine := hr.units
    have hu1 : (A.deeper (envOfC "words_by" (defScope s_words_by) s.heap.objs.size f cdv)).units + 1 < cLine := by omega
    obtain ⟨WW, gW, hW⟩ := T.w_WORD.ex
    refine ⟨_, (pss_cons (ps_if (pt_cmpR (op_inK K) (pe_ix (ix_seqK K) (pv 0) pe_int (fun _ _ => rfl)) (pe_glob (v := .ref WW) rfl gW rfl) (by rfl)) (pss_one (ps_ret pe_int)) pss_nil)
      (pss_one (ps_ret (pe_callB (cr_sumK K rfl) (by rfl) m_sum bt_sum (pa_cons (pe_lc (own := [("part", 2)]) rfl sc_words_by.nd (pi_seqK K (pe_callC C_part_kinds (hr.mono (by decide)) rfl pass0 (pa_cons (pv 0) pa_nil))) (blkOk_by (own := [("part", 2)]) (N := N_words_by) (sc := defScope s_words_by) (by decide +kernel)) (fun _ _ _ _ _ => pg_name (i := 2) sc_words_by.nd rfl (Or.inl rfl)) (fun _ _ _ _ _ => pts_nil) (fun _ _ _ _ _ => (pe_dget hu1 (pv 1) (pv 2) (fun _ _ => rfl)))) pa_nil))))), ?_⟩
    have a : At Fm.pure B H B H := At.start (Ok.any e)
    obtain ⟨y, how, p, ps, erd, _, hc⟩ := id hr0
    have hv' : Dd K B vr (.tuple (.int y :: .str how :: p :: ps)) := erd ▸ hv
    have i1 : ED Fm.pure K (tOp (rIx K) (tVar 0) (tC (.int 1))) [some vr, some vd, none] B (.str how) := ed_op (ed_var rfl hv') ed_int (rd_ixT at3_1)
    have hpl := hr0.parts.1
    rcases hc with ⟨hw, _, _, hp⟩ | ⟨hw, hp, hl1, _⟩
    · refine qv_when (b := true) a (et_is (et_cmp (inST i1 (ed_v (hW B)))) hw) (fun _ B1 H1 e1 a1 => ?_) (fun h => nomatch h)
      refine sv_ret (P := DD K (.int 1)) a1 ed_int fun v1 B2 H2 e2 a2 h2 => ?_
      obtain rfl := dd_int h2
      have := q B2 H2 a2.st
      unfold szZ at this
      rw [hp] at this
      exact this
    · refine qv_when (b := false) a (et_is (et_cmp (inST i1 (ed_v (hW B)))) hw) (fun h => nomatch h) (fun _ B1 H1 e1 a1 => ?_)
      refine sv_ret (P := DD K (.int ((prtL r).map x).sum)) a1 (ev_cb (eds_cons (ed_is (ed_lcD (K := K) (ds := (prtL r).map .int) (fun _ => true) (fun d => .int (x (numI d))) (ev_seqT (ed_F (eds_cons (ed_var (i := 0) rfl (hv.up e1)) eds_nil) ⟨r, n, rfl, hr0⟩ rfl)) (by rw [List.length_map]; omega) (fun _ => rfl) (fun d u B8 hm8 e8 hu => et_yes) (fun d u B8 hm8 _ e8 hu => ?_)) (by
        rw [List.filter_eq_self.mpr (fun _ _ => rfl), List.map_map, show (fun d => PyData.int (x (numI d))) ∘ PyData.int = PyData.int ∘ x from rfl, ← List.map_map])) eds_nil) (rc_sum (ns := (prtL r).map x))) fun v1 B2 H2 e2 a2 h2 => ?_
      · obtain ⟨z, hz, rfl⟩ := List.mem_map.mp hm8
        exact ev_iget (m := m) (Dx.ev_var (P := DicI m) (i := 1) rfl upc_dicI (upc_dicI _ _ _ (e1.trans e8) hd)) (ed_var (i := 2) rfl hu) (hm z hz)
      · obtain rfl := dd_int h2
        have := q B2 H2 a2.st
        unfold szZ at this
        rw [if_neg] at this
        · exact this
        · intro h
          rw [List.isEmpty_iff] at h
          rw [h] at hl1
          exact absurd hl1 (by decide)

end
end K33

namespace K33
open PySem PySem.Spec PyProof.Rows L2 Evl Ex Dx StX
open PySem.PyData (strOk)
section
variable {P : Program} {w : World} {K : PySem.W.Frag} {mg : Str → Option Value} {base : Heap} {f : Addr} {fd : FuncData}


theorem rc_any {F : Fm} {B : Hp} {bs : List Bool} : RDc F K (rAny K) B [.list (bs.map .bool)] (.bool (bs.any id)) := rc_of fun H u hu => by
  obtain ⟨a, xs, rfl, h1, l1, g1⟩ := dd_lst hu
  exact ⟨.bl (bs.any id), fun _ => .bl _, fun Q q => ⟨a, bs, rfl, by rw [← bls_dv g1]; exact sq_of h1, q⟩⟩
theorem ed_anyX {F : Fm} {σ : L2.St} {B : Hp} {te : TE} {b : Bool} (h : EV F te σ B (fun v B => ∃ bs : List Bool, bs.any id = b ∧ Dd K B v (.list (bs.map .bool)))) : ED F K (tCB (rAny K) (tCons te tNil)) σ B (.bool b) := fun B1 e1 H j Q q =>
  h B1 e1 H j _ fun v B2 H2 s2 j2 ⟨bs, hb, g⟩ => rc_any (F := F) B2 (Ex.refl B2) H2 [v] j2 (.cons g .nil) Q fun w B3 H3 s3 j3 gw => q w B3 H3 (s2.trans s3) j3 (hb ▸ gw)
/-- a comprehension over what is known up to a choice -/
theorem ev_lcX {F : Fm} {σ : L2.St} {B : Hp} {tl te : TE} {tt : TT} {j : Nat} {vsN : List Nat} {R : List PyData → Prop} {Z : PV} (h : EV F tl σ B (fun v B => ∃ ds, R ds ∧ Dd K B v (.tuple ds)))
    (hq : ∀ ds v B1, R ds → Ex B B1 → Dd K B1 v (.tuple ds) → EV F (tLc (iSeq K (tC v)) (gName j) tt te vsN) σ B1 Z) : EV F (tLc (iSeq K tl) (gName j) tt te vsN) σ B Z := fun B1 e1 H1 j1 Q q =>
  h B1 e1 H1 j1 _ fun v B2 H2 s2 j2 ⟨ds, r, g⟩ => hq ds v B2 r (e1.trans s2.bb) g B2 (Ex.refl B2) H2 j2 Q fun w B3 H3 s3 j3 z => q w B3 H3 (s2.trans s3) j3 z
theorem ed_LS {F : Fm} {σ : L2.St} {B : Hp} {CP : Addr} {i j : Nat} {vp vl : V} {n : Nat} {rs : List PyData} {L : List Int} (hi : σ[i]? = some (some vp)) (hj : σ[j]? = some (some vl)) (hp : InsP K CP (.int (n : Nat)) (.tuple rs) vp B) (g : Gs n rs) (hl : Dd K B vl (.list (L.map .int))) (hL : L.length ≤ 100) : ED F K (tCall (spLS K CP) [] E0 (tCons (tVar i) (tCons (tVar j) tNil))) σ B (adjD (lsE rs L) n) := fun B1 e1 H1 j1 Q1 q1 =>
  ⟨vp, hi, vl, hj, B1, vp, vl, n, rs, L, rfl, j1.e, upc_ins _ _ _ e1 hp, g, hl.up e1, hL, fun v' B' H' s h => q1 v' B' H' s.pure (j1.pure s) h⟩
theorem ed_LR {F : Fm} {σ : L2.St} {B : Hp} {CP : Addr} {i j : Nat} {vp vl : V} {n : Nat} {rs : List PyData} {L : List Int} (hi : σ[i]? = some (some vp)) (hj : σ[j]? = some (some vl)) (hp : InsP K CP (.int (n : Nat)) (.tuple rs) vp B) (g : Gs n rs) (hl : Dd K B vl (.list (L.map .int))) (hL : L.length ≤ 100) : ED F K (tCall (spLR K CP) [] E0 (tCons (tVar i) (tCons (tVar j) tNil))) σ B (.list (rs.filter (livB L))) := fun B1 e1 H1 j1 Q1 q1 =>
  ⟨vp, hi, vl, hj, B1, vp, vl, n, rs, L, rfl, j1.e, upc_ins _ _ _ e1 hp, g, hl.up e1, hL, fun v' B' H' s h => q1 v' B' H' s.pure (j1.pure s) h⟩
theorem kb_has {E : List (Int × Int)} {n : Nat} {k j : Int} {S : List Int} (g : Eg n E) (h : KBs E k S) : S.contains j = rchB E n k j := by
  rw [Bool.eq_iff_iff, List.contains_iff_mem, h.m, rch_iff g]
/-- j in kinds_behind(steps, k) -/
theorem ed_inKB {F : Fm} {σ : L2.St} {B : Hp} {i : Nat} {te tj : TE} {v0 : V} {n k : Nat} {j : Int} {E : List (Int × Int)} (hi : σ[i]? = some (some v0)) (hv : Dd K B v0 (adjD E n)) (hk : ED F K te σ B (.int (k : Nat))) (hj : ED F K tj σ B (.int j)) (g : Eg n E) (hkn : k < n) : ED F K (tOp (rIn K false) tj (tCall (spKB K) [] E0 (tCons (tVar i) (tCons te tNil)))) σ B (.bool (rchB E n (k : Nat) j)) :=
  ev_op (P := DD K (.int j)) hj (ev_kb hi hv hk g hkn) upc_dd fun B3 e3 H3 u v j3 hu ⟨S, hS, hd⟩ Q3 q3 => rd_isin (F := F) (K := K) (B := B3) (x := .int j) (y := .list (S.map .int)) (.inl rfl) rfl (flatI _) B3 (Ex.refl B3) H3 u v j3 hu hd Q3 fun w B' H' s jj gw => q3 w B' H' s jj (by
    rw [inD_int, kb_has g hS] at gw
    exact gw)
/-- (k, *kinds_behind(steps, k)) -/
theorem ev_kbT {F : Fm} {σ : L2.St} {B : Hp} {i : Nat} {te tk : TE} {v0 : V} {n k : Nat} {E : List (Int × Int)} (hi : σ[i]? = some (some v0)) (hv : Dd K B v0 (adjD E n)) (hk : ED F K tk σ B (.int (k : Nat))) (hk2 : ED F K te σ B (.int (k : Nat))) (g : Eg n E) (hkn : k < n) : EV F (tTup (tCons tk (tStar K (tCall (spKB K) [] E0 (tCons (tVar i) (tCons te tNil))) tNil))) σ B (fun v B => ∃ ds, (∃ S, KBs E (k : Nat) S ∧ ds = ((((k : Nat) : Int) :: S).map PyData.int)) ∧ Dd K B v (.tuple ds)) := by
  have tl : EVs F (tStar K (tCall (spKB K) [] E0 (tCons (tVar i) (tCons te tNil))) tNil) σ B (fun vs B => ∃ ds, (∃ S, KBs E (k : Nat) S ∧ ds = S.map .int) ∧ DdAll K B vs (ds ++ [])) := evs_starL (EV.imp (ev_kb hi hv hk2 g hkn) fun v _ _ ⟨S, h, d⟩ => ⟨_, ⟨S, h, rfl⟩, d⟩) fun _ _ => eds_nil
  have tc : EVs F (tCons tk (tStar K (tCall (spKB K) [] E0 (tCons (tVar i) (tCons te tNil))) tNil)) σ B (fun vs B => ∃ S, KBs E (k : Nat) S ∧ DdAll K B vs ((((k : Nat) : Int) :: S).map .int)) := fun B1 e1 H1 j1 Q1 q1 =>
    hk B1 e1 H1 j1 _ fun v2 B2 H2 s2 j2 g2 => tl B2 (e1.trans s2.bb) H2 j2 _ fun us B3 H3 s3 j3 ⟨ds, ⟨S, hS, eds⟩, gs⟩ => q1 _ B3 H3 (s2.trans s3) j3 ⟨S, hS, .cons (Dd.up g2 s3.bb) (by
      rw [eds, List.append_nil] at gs
      exact gs)⟩
  have lz : ∀ (vs : List V) (B1 : Hp) (S : List Int), KBs E (k : Nat) S → DdAll K B1 vs ((((k : Nat) : Int) :: S).map .int) → vs.length ≤ sizeLine := fun vs B1 S hS g => by
    have := hS.len
    rw [g.len, List.length_map, sizeLine_eq]
    show S.length + 1 ≤ _
    omega
  exact tc.newT (fun vs B1 _ ⟨S, hS, g⟩ => lz vs B1 S hS g) fun vs p B1 _ ⟨S, hS, g⟩ hp => ⟨_, ⟨S, hS, rfl⟩, .tup (ta_of upd_same) (lz vs B1 S hS g) (g.up (Ex.new hp))⟩
def told0 (n : Nat) (rs : List PyData) (k : Int) : Option Int := if (liveL rs n).contains k = true then (if wdB (lE n rs) n k = true then some (-2) else none) else some (-1)
def toldN (n : Nat) (rs : List PyData) (i : Nat) : IMp := fun k => if 0 ≤ k ∧ k < (i : Int) then told0 n rs k else none
theorem toldN_zero (n : Nat) (rs : List PyData) : toldN n rs 0 = fun _ => none := by
  funext k
  unfold toldN
  rw [if_neg (by omega)]
theorem toldN_some {n : Nat} {rs : List PyData} {i : Nat} {v : Int} (h : told0 n rs (i : Nat) = some v) : iput (toldN n rs i) (i : Nat) v = toldN n rs (i + 1) := by
  funext k
  unfold iput toldN
  by_cases e : k = (i : Int)
  · subst e
    rw [if_pos rfl, if_pos (by omega), h]
  · rw [if_neg e]
    by_cases h2 : 0 ≤ k ∧ k < (i : Int)
    · rw [if_pos h2, if_pos (by omega)]
    · rw [if_neg h2, if_neg (by omega)]
theorem toldN_none {n : Nat} {rs : List PyData} {i : Nat} (h : told0 n rs (i : Nat) = none) : toldN n rs i = toldN n rs (i + 1) := by
  funext k
  unfold toldN
  by_cases e : k = (i : Int)
  · subst e
    rw [if_neg (by omega), if_pos (by omega), h]
  · by_cases h2 : 0 ≤ k ∧ k < (i : Int)
    · rw [if_pos h2, if_pos (by omega)]
    · rw [if_neg h2, if_neg (by omega)]
theorem told0_bnd {n : Nat} {rs : List PyData} {k : Int} (hk : 0 ≤ k ∧ k < (n : Int)) : told0 n rs k = none ↔ bnd n rs k := by
  unfold told0 bnd
  constructor
  · intro h
    split at h
    · rename_i hc
      split at h
      · cases h
      · rename_i hw
        exact ⟨hk, List.contains_iff_mem.mp hc, by simpa using hw⟩
    · cases h
  · rintro ⟨_, hl, hw⟩
    rw [if_pos (List.contains_iff_mem.mpr hl), if_neg (by rw [hw]; decide)]
theorem any_wd {E : List (Int × Int)} {n k : Nat} {S : List Int} (g : Eg n E) (h : KBs E (k : Nat) S) (hk : k < n) : (((((k : Nat) : Int) :: S).map fun j => (((List.range n).filter fun i : Nat => rchB E n (i : Int) (i : Int)).map fun i : Nat => (i : Int)).contains j)).any id = wdB E n (k : Nat) := by
  have mem : ∀ j : Int, (((List.range n).filter fun i : Nat => rchB E n (i : Int) (i : Int)).map fun i : Nat => (i : Int)).contains j = true ↔ Gm.Rch E j j := fun j => by
    rw [List.contains_iff_mem, List.mem_map]
    constructor
    · rintro ⟨i, hi, rfl⟩
      exact (rch_iff g).mp (List.mem_filter.mp hi).2
    · intro hr
      have := rch_in g hr
      have en : ((j.toNat : Nat) : Int) = j := by omega
      exact ⟨j.toNat, List.mem_filter.mpr ⟨List.mem_range.mpr (by omega), by rw [en]; exact (rch_iff g).mpr hr⟩, en⟩
  rw [Bool.eq_iff_iff, List.any_eq_true, wd_iff g]
  constructor
  · rintro ⟨b, hb, hb2⟩
    obtain ⟨j, hj, rfl⟩ := List.mem_map.mp hb
    refine ⟨j, ?_, (mem j).mp hb2⟩
    rcases List.mem_cons.mp hj with rfl | hj
    · exact .inl rfl
    · exact .inr ((h.m j).mp hj)
  · rintro ⟨j, hj, h2⟩
    refine ⟨_, List.mem_map.mpr ⟨j, ?_, rfl⟩, (mem j).mpr h2⟩
    rcases hj with rfl | hj
    · exact List.mem_cons_self
    · exact List.mem_cons_of_mem _ ((h.m j).mpr hj)
theorem adj_bE {n : Nat} {rs : List PyData} (k : Int) : adj (bE n rs) k = if (liveL rs n).contains k = true ∧ wdB (lE n rs) n k = false then adj (lE n rs) k else [] := by
  unfold adj bE
  rw [List.filter_filter]
  by_cases h : (liveL rs n).contains k = true ∧ wdB (lE n rs) n k = false
  · rw [if_pos h]
    congr 1
    apply List.filter_congr
    intro p _
    by_cases e : p.1 = k
    · rw [e, h.1, h.2]
      simp
    · rw [beq_eq_false_iff_ne.mpr e, Bool.false_and]
  · rw [if_neg h]
    rw [List.filter_eq_nil_iff.mpr]
    · rfl
    · intro p _ hp
      rw [Bool.and_eq_true, Bool.and_eq_true, beq_iff_eq, Bool.not_eq_true'] at hp
      exact h (hp.1 ▸ hp.2)
theorem told0_adj {n : Nat} {rs : List PyData} (k : Int) : adj (bE n rs) k = if (told0 n rs k).isSome = true then [] else adj (lE n rs) k := by
  rw [adj_bE]
  unfold told0
  by_cases h1 : (liveL rs n).contains k = true
  · rw [if_pos h1]
    by_cases h2 : wdB (lE n rs) n k = true
    · rw [if_pos h2, if_neg (fun z => by rw [z.2] at h2; cases h2), if_pos (show (some (-2 : Int)).isSome = true from rfl)]
    · rw [if_neg h2, if_pos ⟨h1, by simpa using h2⟩, if_neg (by decide)]
  · rw [if_neg h1, if_neg (fun z => h1 z.1), if_pos (show (some (-1 : Int)).isSome = true from rfl)]
structure TS (n : Nat) (rs : List PyData) (O : List Int) (i : Nat) (m : IMp) (x : Int → Int) : Prop where
  has : ∀ k, (0 ≤ k ∧ k < (n : Int)) → (¬ bnd n rs k ∨ k ∈ O.take i) → m k = some (x k)
  no : ∀ k, bnd n rs k → k ∉ O.take i → m k = none
  old : ∀ k, (0 ≤ k ∧ k < (n : Int)) → ∀ v, told0 n rs k = some v → x k = v
  top : ∀ k ∈ O.take i, bnd n rs k → (∃ r ∈ gdL n rs, hdI r = k ∧ szZ x r = x k) ∧ ∀ r ∈ gdL n rs, hdI r = k → szZ x r ≤ x k
section
variable {n : Nat} {rs : List PyData} {O : List Int} {i : Nat} {m : IMp} {x : Int → Int} {k : Int}
theorem ts_start : TS n rs O 0 (toldN n rs n) (fun k => (told0 n rs k).getD 0) := by
  refine ⟨fun k hk h => ?_, fun k hb _ => ?_, fun k hk v h => by rw [h]; rfl, fun k hk => by rw [List.take_zero] at hk; cases hk⟩
  · rcases h with h | h
    · unfold toldN
      rw [if_pos hk]
      cases ht : told0 n rs k with
      | none => exact absurd ((told0_bnd hk).mp ht) h
      | some v => rfl
    · rw [List.take_zero] at h
      cases h
  · unfold toldN
    rw [if_pos hb.1]
    exact (told0_bnd hb.1).mpr hb
theorem ts_mem (h : O[i]? = some k) : k ∈ O.take (i + 1) ∧ ∀ j, j ∈ O.take (i + 1) ↔ j ∈ O.take i ∨ j = k := by
  have e := take_snoc h
  refine ⟨by rw [e]; exact List.mem_append_right _ (List.mem_singleton.mpr rfl), fun j => ?_⟩
  rw [e, List.mem_append, List.mem_singleton]
theorem ts_fresh (hO : O.Nodup) (h : O[i]? = some k) : k ∉ O.take i := fun hm => by
  obtain ⟨j, hj⟩ := List.getElem?_of_mem hm
  have hlt : j < i := by
    have := (List.getElem?_eq_some_iff.mp hj).1
    rw [List.length_take] at this
    omega
  rw [List.getElem?_take_of_lt hlt] at hj
  have hi := (List.getElem?_eq_some_iff.mp h).1
  have := (List.getElem?_inj (by omega) hO).mp (hj.trans h.symm)
  omega
theorem TS.skip (h : TS n rs O i m x) (hk : O[i]? = some k) (hr : 0 ≤ k ∧ k < (n : Int)) (hb : ¬ bnd n rs k) : TS n rs O (i + 1) m x := by
  obtain ⟨_, mm⟩ := ts_mem hk
  refine ⟨fun j hj h2 => ?_, fun j hbj h2 => h.no j hbj fun z => h2 ((mm j).mpr (.inl z)), h.old, fun j hj hbj => ?_⟩
  · rcases h2 with h2 | h2
    · exact h.has j hj (.inl h2)
    · rcases (mm j).mp h2 with h3 | rfl
      · exact h.has j hj (.inr h3)
      · exact h.has j hj (.inl hb)
  · rcases (mm j).mp hj with h3 | rfl
    · exact h.top j h3 hbj
    · exact absurd hbj hb
theorem TS.parts (g : Gs n rs) (tp : Topo (bE n rs) n O) (h : TS n rs O i m x) (hk : O[i]? = some k) (hb : bnd n rs k) {r : PyData} (hr : r ∈ gdL n rs) (he : hdI r = k) : ∀ p ∈ prtL r, p ∈ O.take i ∧ m p = some (x p) := fun p hp => by
  have h1 := tp.ord i k hk p (he ▸ bnd_edge g hr (he ▸ hb) hp)
  exact ⟨h1, h.has p ((gd_rf g r hr).parts.2 p hp) (.inr h1)⟩
theorem TS.put (g : Gs n rs) (tp : Topo (bE n rs) n O) (h : TS n rs O i m x) (hk : O[i]? = some k) (hb : bnd n rs k) {v : Int} (hv : ∃ r ∈ gdL n rs, hdI r = k ∧ szZ x r = v) (hm : ∀ r ∈ gdL n rs, hdI r = k → szZ x r ≤ v) : TS n rs O (i + 1) (iput m k v) (fun j => if j = k then v else x j) := by
  obtain ⟨mk, mm⟩ := ts_mem hk
  have fr := ts_fresh tp.lv.nd hk
  have same : ∀ j, j ∈ O.take i ∨ j = k → bnd n rs j → ∀ r ∈ gdL n rs, hdI r = j → szZ (fun j => if j = k then v else x j) r = szZ x r := fun j hj hbj r hr he => sz_congr fun p hp => by
    have hp2 : p ∈ O.take i := by
      rcases hj with hj | rfl
      · obtain ⟨a, ha⟩ := List.getElem?_of_mem hj
        have hlt : a < i := by
          have := (List.getElem?_eq_some_iff.mp ha).1
          rw [List.length_take] at this
          omega
        rw [List.getElem?_take_of_lt hlt] at ha
        have h1 := tp.ord a j ha p (he ▸ bnd_edge g hr (he ▸ hbj) hp)
        have : O.take a = (O.take i).take a := by rw [List.take_take, Nat.min_eq_left (by omega)]
        rw [this] at h1
        exact List.mem_of_mem_take h1
      · exact (h.parts g tp hk hbj hr he p hp).1
    show (if p = k then v else x p) = x p
    rw [if_neg fun z : p = k => fr (z ▸ hp2)]
  refine ⟨fun j hj h2 => ?_, fun j hbj h2 => ?_, fun j hj v2 h2 => ?_, fun j hj hbj => ?_⟩
  · unfold iput
    by_cases e : j = k
    · rw [if_pos e, if_pos e]
    · rw [if_neg e, if_neg e]
      refine h.has j hj ?_
      rcases h2 with h2 | h2
      · exact .inl h2
      · rcases (mm j).mp h2 with h3 | h3
        · exact .inr h3
        · exact absurd h3 e
  · unfold iput
    rw [if_neg fun z : j = k => h2 (z ▸ mk)]
    exact h.no j hbj fun z => h2 ((mm j).mpr (.inl z))
  · rw [if_neg]
    · exact h.old j hj v2 h2
    · rintro rfl
      rw [(told0_bnd hb.1).mpr hb] at h2
      cases h2
  · by_cases e : j = k
    · subst e
      obtain ⟨r, hr, he, hs⟩ := hv
      refine ⟨⟨r, hr, he, ?_⟩, fun r hr he => ?_⟩
      · rw [same j (.inr rfl) hbj r hr he, if_pos rfl]
        exact hs
      · rw [same j (.inr rfl) hbj r hr he, if_pos rfl]
        exact hm r hr he
    · have h3 : j ∈ O.take i := by
        rcases (mm j).mp hj with h3 | h3
        · exact h3
        · exact absurd h3 e
      obtain ⟨⟨r, hr, he, hs⟩, h4⟩ := h.top j h3 hbj
      refine ⟨⟨r, hr, he, ?_⟩, fun r hr he => ?_⟩
      · rw [same j (.inl h3) hbj r hr he, if_neg e]
        exact hs
      · rw [same j (.inl h3) hbj r hr he, if_neg e]
        exact h4 r hr he
theorem TS.done (tp : Topo (bE n rs) n O) (hO : O.length = n) (h : TS n rs O n m x) : LenS n rs x ∧ ∀ k, (0 ≤ k ∧ k < (n : Int)) → m k = some (x k) := by
  have full : O.take n = O := by rw [← hO, List.take_length]
  have hm : ∀ k, (0 ≤ k ∧ k < (n : Int)) → k ∈ O.take n := fun k hk => by
    rw [full]
    exact lv_all tp.lv (by omega) hk
  refine ⟨⟨fun k hk hl => h.old k hk _ ?_, fun k hk hl hw => h.old k hk _ ?_, fun k hb => h.top k (hm k hb.1) hb⟩, fun k hk => h.has k hk (.inr (hm k hk))⟩
  · unfold told0
    rw [if_neg fun z => hl (List.contains_iff_mem.mp z)]
  · unfold told0
    rw [if_pos (List.contains_iff_mem.mpr hl), if_pos hw]
end
theorem ed_WB {F : Fm} {σ : L2.St} {B : Hp} {i j : Nat} {vr vd : V} {r : PyData} {n : Nat} {m : IMp} {x : Int → Int} (hi : σ[i]? = some (some vr)) (hj : σ[j]? = some (some vd)) (hv : Dd K B vr r) (hr : RF n r) (hd : DicI m vd B) (hm : ∀ p ∈ prtL r, m p = some (x p)) : ED F K (tCall (spWB K) [] E0 (tCons (tVar i) (tCons (tVar j) tNil))) σ B (.int (szZ x r)) := fun B1 e1 H1 j1 Q1 q1 =>
  ⟨vr, hi, vd, hj, B1, vr, vd, r, n, m, x, rfl, j1.e, hv.up e1, hr, upc_dicI _ _ _ e1 hd, hm, fun B' H' s => q1 _ B' H' s.pure (j1.pure s) (.int _)⟩
variable {c0 c1 c2 CP : Addr}
def spLen (K : PySem.W.Frag) (CP : Addr) : Sp := fun vs H Q _ => ∃ (B : Hp) (vp : V) (n : Nat) (rs : List PyData), vs = [vp] ∧ Ex B H ∧ InsP K CP (.int (n : Nat)) (.tuple rs) vp B ∧ Gs n rs ∧ ∀ v' B' H' (x : Int → Int), Step (fun _ => False) B H B' H' → LenS n rs x → Dd K B' v' (.tuple ((List.range n).map fun k : Nat => .int (x k))) → Q v' H'

abbrev s_lengths : Stmt := topS 30
abbrev N_lengths : List Str := ["pairs", "live", "steps", "kind", "looping", "told", "bounded", "one", "rule"]
theorem sc_lengths : FnScope N_lengths ["pairs"] (defScope s_lengths) := ⟨rfl, rfl, rfl, by decide +kernel, rfl, by decide +kernel, by decide +kernel⟩
theorem ok_lengths (F : Fun K "lengths" "lengths" s_lengths f fd) (T : TP P w K mg base c0 c1 c2 CP) (m_any : mg "any" = none) (m_max : mg "max" = none) (C_live_kinds : Callee P w K mg base "live_kinds" 3 ["pairs"] (spIns K CP fLvK)) (C_live_steps : Callee P w K mg base "live_steps" 4 ["pairs", "live"] (spLS K CP)) (C_kinds_behind : Callee P w K mg base "kinds_behind" 1 ["steps", "kind"] (spKB K)) (C_kinds_in_order : Callee P w K mg base "kinds_in_order" 1 ["steps"] (spKO K)) (C_live_rules : Callee P w K mg base "live_rules" 3 ["pairs", "live"] (spLR K CP)) (C_words_by : Callee P w K mg base "words_by" 2 ["rule", "told"] (spWB K)) : FnOk P w K mg base CX0 5 f fd ["pairs"] (spLen K CP) := by
  refine F.ok sc_lengths (fun vs H Q E h => ?_) (fun cdv A outer s H vs Q E hr h => ?_)
  · obtain ⟨B, vp, n, rs, rfl, _⟩ := h
    rfl
  · obtain ⟨B, vp, n, rs, rfl, e, hp, g, q⟩ := h
    have hu64 : (A.deeper (envOfC "lengths" (defScope s_lengths) s.heap.objs.size f cdv)).units + 64 < cLine := hr.units
    have hu1 : (A.deeper (envOfC "lengths" (defScope s_lengths) s.heap.objs.size f cdv)).units + 1 < cLine := by omega
    refine ⟨_, (pss_cons (ps_set (i := 1) sc_lengths.nd rfl (Or.inl rfl) (pe_callC C_live_kinds (hr.mono (by decide)) rfl pass0 (pa_cons (pv 0) pa_nil)))
      (pss_cons (ps_set (i := 2) sc_lengths.nd rfl (Or.inr rfl) (pe_callC C_live_steps (hr.mono (by decide)) rfl pass0 (pa_cons (pv 0) (pa_cons (pv 1) pa_nil))))
      (pss_cons (ps_set (i := 4) sc_lengths.nd rfl (Or.inr rfl) (pe_lc (own := [("kind", 3)]) rfl sc_lengths.nd (pi_range1 rfl T.m_range (pa_cons (pe_fldK K (pv 0)) pa_nil)) (blkOk_by (own := [("kind", 3)]) (N := N_lengths) (sc := defScope s_lengths) (by decide +kernel)) (fun _ _ _ _ _ => pg_name (i := 3) sc_lengths.nd rfl (Or.inl rfl)) (fun _ _ _ _ _ => (pts_one (pt_cmpR (op_inK K) (pv 3) (pe_callC C_kinds_behind (hr.mono (by decide)) rfl pass0 (pa_cons (pv 2) (pa_cons (pv 3) pa_nil))) (by rfl)))) (fun _ _ _ _ _ => (pv 3))))
      (pss_cons (ps_set (i := 5) sc_lengths.nd rfl (Or.inr rfl) pe_dnewK)
      (pss_cons (ps_for PassesOwn.never rfl (pi_range1 rfl T.m_range (pa_cons (pe_fldK K (pv 0)) pa_nil)) (pg_name (i := 3) sc_lengths.nd rfl (Or.inr rfl)) (pss_one (ps_if (pt_cmpR (op_ninK K) (pv 3) (pv 1) (by rfl)) (pss_one (ps_dput hu1 (pv 5) (pv 3) (pe_gint rfl T.c_NOT_LIVE) rfl)) (pss_one (ps_if (pt_val (pe_callB (cr_anyK K) (by rfl) m_any bt_any (pa_cons (pe_lc (own := [("one", 7)]) rfl sc_lengths.nd (pi_seqK K (pe_tup (pa_cons (pv 3) (pa_star (pe_callC C_kinds_behind (hr.mono (by decide)) rfl pass0 (pa_cons (pv 2) (pa_cons (pv 3) pa_nil))) pa_nil)))) (blkOk_by (own := [("one", 7)]) (N := N_lengths) (sc := defScope s_lengths) (by decide +kernel)) (fun _ _ _ _ _ => pg_name (i := 7) sc_lengths.nd rfl (Or.inl rfl)) (fun _ _ _ _ _ => pts_nil) (fun _ _ _ _ _ => (pe_cmpR (op_inK K) (pv 7) (pv 4) (by rfl)))) pa_nil))) (pss_one (ps_dput hu1 (pv 5) (pv 3) (pe_gint rfl T.c_ENDLESS) rfl)) pss_nil)))))
      (pss_cons (ps_setLc (i := 6) (own := [("kind", 3)]) rfl sc_lengths.nd rfl rfl (sw_true rfl rfl rfl (by decide +kernel)) (pi_range1 rfl T.m_range (pa_cons (pe_fldK K (pv 0)) pa_nil)) (blkOk_by (own := [("kind", 3)]) (N := N_lengths) (sc := defScope s_lengths) (by decide +kernel)) (fun _ _ _ _ _ => pg_name (i := 3) sc_lengths.nd rfl (Or.inl rfl)) (fun _ _ _ _ _ => pts_nil) (fun _ _ _ _ _ => (pe_ifExp (pt_cmp (pc_din hu1 (pv 3) (pv 5))) (pe_lst pa_nil) (pe_ix (ix_seqK K) (pv 2) (pv 3) (fun _ _ => rfl)))))
      (pss_cons (ps_for PassesOwn.never rfl (pi_seqK K (pe_callC C_kinds_in_order (hr.mono (by decide)) rfl pass0 (pa_cons (pv 6) pa_nil))) (pg_name (i := 3) sc_lengths.nd rfl (Or.inr rfl)) (pss_one (ps_if (pt_cmp (pc_dnotin hu1 (pv 3) (pv 5))) (pss_one (ps_dput hu1 (pv 5) (pv 3) (pe_callB (cr_maxLK K rfl) (by rfl) m_max bt_max (pa_cons (pe_lc (own := [("rule", 8)]) rfl sc_lengths.nd (pi_seqK K (pe_callC C_live_rules (hr.mono (by decide)) rfl pass0 (pa_cons (pv 0) (pa_cons (pv 1) pa_nil)))) (blkOk_by (own := [("rule", 8)]) (N := N_lengths) (sc := defScope s_lengths) (by decide +kernel)) (fun _ _ _ _ _ => pg_name (i := 8) sc_lengths.nd rfl (Or.inl rfl)) (fun _ _ _ _ _ => (pts_one (pt_cmpR (op_eqDK K hu64) (pe_ix (ix_seqK K) (pv 8) pe_int (fun _ _ => rfl)) (pv 3) (nomark _)))) (fun _ _ _ _ _ => (pe_callC C_words_by (hr.mono (by decide)) rfl pass0 (pa_cons (pv 8) (pa_cons (pv 5) pa_nil))))) pa_nil)) rfl)) pss_nil)))
      (pss_one (ps_ret (pe_callTy (call_tuple_ofK K) (by rfl) T.m_tuple bt_tuple (pa_cons (pe_lc (own := [("kind", 3)]) rfl sc_lengths.nd (pi_range1 rfl T.m_range (pa_cons (pe_fldK K (pv 0)) pa_nil)) (blkOk_by (own := [("kind", 3)]) (N := N_lengths) (sc := defScope s_lengths) (by decide +kernel)) (fun _ _ _ _ _ => pg_name (i := 3) sc_lengths.nd rfl (Or.inl rfl)) (fun _ _ _ _ _ => pts_nil) (fun _ _ _ _ _ => (pe_dget hu1 (pv 5) (pv 3) (fun _ _ => rfl)))) pa_nil))))))))))), ?_⟩
    have n8 := g.n8
    have l9 := g.l9
    have eg := g.eg (liveL rs n)
    have hLl := live_len g
    refine wq_asg (P := DD K (.list ((liveL rs n).map .int))) (ow_nil (F := Fm.pure) (Ok.any e)) (ed_Ins (fn := fLvK) (i := 0) rfl hp g) fun vl B1 H1 w1 e1 hl => ?_
    have hp := upc_ins _ _ _ e1 hp
    refine wq_asg w1 (ed_LS (i := 0) (j := 1) rfl rfl hp g hl (by omega)) fun vs B2 H2 w2 e2 hs => ?_
    have hp := upc_ins _ _ _ e2 hp
    have hl := hl.up e2
    refine wq_asg (P := DD K (.list (((List.range n).filter fun i : Nat => rchB (lE n rs) n (i : Int) (i : Int)).map fun i : Nat => .int (i : Int)))) w2 (ed_lcR (K := K) (n := (n : Nat)) (fun i : Nat => rchB (lE n rs) n (i : Int) (i : Int)) (fun i : Nat => .int (i : Int)) (eds_cons (ev_kinds T (i := 0) rfl hp) eds_nil) ⟨by omega, by omega⟩ (fun _ => rfl) (fun i B3 hi e3 => et_cmp (ed_inKB (i := 2) rfl (hs.up e3) (ed_var (i := 3) rfl (.int (i : Int))) (ed_var (i := 3) rfl (.int (i : Int))) eg (by omega))) (fun i B3 hi _ e3 => ed_var (i := 3) rfl (.int (i : Int)))) fun vlp B3 H3 w3 e3 hlp => ?_
    have hp := upc_ins _ _ _ e3 hp
    have hl := hl.up e3
    have hs := hs.up e3
    refine wq_dictK (i := 5) w3 fun na w4 => ?_
    have lpi : ((List.range n).filter fun i : Nat => rchB (lE n rs) n (i : Int) (i : Int)).map (fun i : Nat => PyData.int (i : Int)) = ((((List.range n).filter fun i : Nat => rchB (lE n rs) n (i : Int) (i : Int)).map fun i : Nat => (i : Int)).map .int) := by rw [List.map_map]; rfl
    have hlp : Dd K B3 vlp (.list ((((List.range n).filter fun i : Nat => rchB (lE n rs) n (i : Int) (i : Int)).map fun i : Nat => (i : Int)).map .int)) := by rw [← lpi]; exact hlp
    refine oq_rng1 (K := K) (F := Fm.pure) (n := (n : Nat)) (j := 3) w4.k (eds_cons (ev_kinds T (i := 0) rfl hp) eds_nil) (by omega) (fun i σ' B' H' => (∃ o3, σ' = [some vp, some vl, some vs, o3, some vlp, some (.ref na), none, none, none]) ∧ Ex B3 B' ∧ ∃ kvs N, Ow Fm.pure B H B' H' [(na, .dK kvs)] ∧ KD (toldN n rs i) N kvs ∧ N ≤ i)
      (fun B5 H5 s5 k5 => ⟨⟨_, rfl⟩, s5.bb, [], 0, w4.pass s5 k5, by rw [toldN_zero]; exact kd_nil, Nat.le_refl _⟩) (fun Bc i σ' B5 H5 ec hi e5 hj => ?_) (fun σ' B5 H5 e5 hj => ?_)
    · obtain ⟨⟨o3, rfl⟩, e35, kvs, N, w5, kd, hN⟩ := hj
      have hi' : i < n := by omega
      have hkl := kd.len
      refine ws_if w5 (b := !(liveL rs n).contains (i : Int)) (et_is (et_cmp (ed_op (ed_var (i := 3) rfl (.int (i : Int))) (ed_var (i := 1) rfl (hl.up e35)) (rd_notin (.inl rfl) rfl (flatI _)))) (congrArg Bool.not (inD_int _ _))) (fun hb B6 H6 w6 e6 => ?_) (fun hb B6 H6 w6 e6 => ?_)
      · refine ws_iput (K := K) w6 (i := 5) rfl (ed_int (i := -1)) (ed_var (i := 3) rfl (.int (i : Int))) (by omega) fun H7 w7 => ⟨B6, e5.trans e6, ⟨_, rfl⟩, e35.trans e6, _, N + 1, w7, ?_, by omega⟩
        rw [← toldN_some (v := -1)]
        · exact kd.put _ _
        · unfold told0
          rw [if_neg (by simpa using hb)]
      · have hc : (liveL rs n).contains (i : Int) = true := by simpa using hb
        refine ws_if w6 (b := wdB (lE n rs) n (i : Nat)) (et_val (ed_anyX (ev_lcX (ev_kbT (i := 2) (n := n) (k := i) rfl (hs.up (e35.trans e6)) (ed_var (i := 3) rfl (.int (i : Int))) (ed_var (i := 3) rfl (.int (i : Int))) eg hi') fun ds v B7 ⟨S, hS, eds⟩ e7 gd => EV.imp (P := DD K (.list ((((((i : Nat) : Int) :: S).map fun j => (((List.range n).filter fun i : Nat => rchB (lE n rs) n (i : Int) (i : Int)).map fun i : Nat => (i : Int)).contains j)).map .bool))) (ed_is (ed_lcD (K := K) (ds := ds) (fun _ => true) (fun d => .bool ((((List.range n).filter fun i : Nat => rchB (lE n rs) n (i : Int) (i : Int)).map fun i : Nat => (i : Int)).contains (numI d))) (ev_seqT (ed_v gd)) (by have := hS.len; rw [eds, List.length_map]; show S.length + 1 ≤ _; omega) (fun _ => rfl) (fun d u B8 hm e8 hu => et_yes) (fun d u B8 hm _ e8 hu => ?_)) ?_) fun v _ _ gv => ⟨_, any_wd eg hS hi', gv⟩))) (fun hw B7 H7 w7 e7 => ?_) (fun hw B7 H7 w7 e7 => ?_)
        · rw [eds] at hm
          obtain ⟨z, _, rfl⟩ := List.mem_map.mp hm
          exact ed_is (ed_op (ed_var (i := 7) rfl hu) (ed_var (i := 4) rfl (hlp.up (((e35.trans e6).trans e7).trans e8))) (rd_isin (.inl rfl) rfl (flatI _))) (congrArg PyData.bool (inD_int _ _))
        · rw [List.filter_eq_self.mpr (fun _ _ => rfl), eds, List.map_map, List.map_map]
          rfl
        · refine ws_iput (K := K) w7 (i := 5) rfl (ed_int (i := -2)) (ed_var (i := 3) rfl (.int (i : Int))) (by omega) fun H8 w8 => ⟨B7, (e5.trans e6).trans e7, ⟨_, rfl⟩, (e35.trans e6).trans e7, _, N + 1, w8, ?_, by omega⟩
          rw [← toldN_some (v := -2)]
          · exact kd.put _ _
          · unfold told0
            rw [if_pos hc, if_pos hw]
        · refine ⟨B7, (e5.trans e6).trans e7, ⟨_, rfl⟩, (e35.trans e6).trans e7, kvs, N, w7, ?_, by omega⟩
          rw [← toldN_none]
          · exact kd
          · unfold told0
            rw [if_pos hc, if_neg (by rw [hw]; decide)]
    obtain ⟨⟨o3, rfl⟩, e35, kvs, N, w5, kd, hN⟩ := hj
    have kd : KD (toldN n rs n) N kvs := kd
    have hp := upc_ins _ _ _ e35 hp
    have hl := hl.up e35
    have hs := hs.up e35
    have e3all := (e1.trans e2).trans (e3.trans e35)
    refine wm_asg (i := 6) (o := .dK kvs) (ho := trivial) (P := DD K (adjD (bE n rs) n)) w5 (ed_is (ed_lcR (K := K) (n := (n : Nat)) (fun _ => true) (fun i : Nat => .list ((adj (bE n rs) (i : Nat)).map .int)) (eds_cons (ev_kinds T (i := 0) rfl hp) eds_nil) ⟨by omega, by omega⟩ (fun _ => rfl) (fun i B6 hi e6 => et_yes) (fun i B6 hi _ e6 => ?_)) (by rw [List.filter_eq_self.mpr (fun _ _ => rfl)]; rfl)) fun vb B6 H6 w6 e6 hbd => ?_
    · have ti : toldN n rs n (i : Nat) = told0 n rs (i : Nat) := by
        unfold toldN
        rw [if_pos (by omega)]
      rw [told0_adj]
      refine ev_if (b := (toldN n rs n (i : Nat)).isSome) (et_val (K := K) (ev_minI (i := 5) rfl (ed_var (i := 3) rfl (.int (i : Int))) kd)) (fun hb => ?_) (fun hb => ?_)
      · rw [ti] at hb
        rw [if_pos hb]
        exact ed_lst eds_nil
      · rw [ti] at hb
        rw [if_neg (by rw [hb]; decide)]
        exact ed_op (ed_var (i := 2) rfl (hs.up e6)) (ed_var (i := 3) rfl (.int (i : Int))) (rd_ixL (adjD_at (by omega)))
    have hp := upc_ins _ _ _ e6 hp
    have hl := hl.up e6
    have cal : EV Fm.pure (tCall (spKO K) [] E0 (tCons (tVar 6) tNil)) [some vp, some vl, some vs, o3, some vlp, some (.ref na), some vb, none, none] B6 (fun v B => ∃ O, Topo (bE n rs) n O ∧ O.length = n ∧ Dd K B v (.list (O.map .int))) := fun B1 e1 H1 j1 Q1 q1 => ⟨vb, rfl, B1, vb, n, bE n rs, rfl, j1.e, hbd.up e1, bE_eg g, bE_acy g, fun v' B' H' O s tp hO h => q1 v' B' H' s.pure (j1.pure s) ⟨O, tp, hO, h⟩⟩
    refine cal B6 (Ex.refl B6) H6 w6.k _ fun vO B7 H7 s7 k7 ⟨O, tp, hO, hdO⟩ => ?_
    have w7 := w6.pass s7 k7
    have hp := upc_ins _ _ _ s7.bb hp
    have hl := hl.up s7.bb
    refine oq_forD (K := K) (F := Fm.pure) (tl := tC vO) (g := gName 3) (ds := O.map .int) w7.k (ev_seqL (ed_v hdO)) (fun i σ' B' H' => (∃ o3, σ' = [some vp, some vl, some vs, o3, some vlp, some (.ref na), some vb, none, none]) ∧ Ex B7 B' ∧ ∃ kvs N m x, Ow Fm.pure B H B' H' [(na, .dK kvs)] ∧ KD m N kvs ∧ N ≤ n + i ∧ TS n rs O i m x) (fun i σ' B' H' ⟨_, _, _, _, _, _, w', _⟩ => w'.k.e)
      (fun B8 H8 s8 k8 => ⟨⟨_, rfl⟩, s8.bb, kvs, N, _, _, w7.pass s8 k8, kd, by omega, ts_start⟩) (fun Bc i d v σ' B8 H8 hd ec e8 hv hj => ?_) (fun σ' B8 H8 e8 hj => ?_)
    · obtain ⟨⟨o3, rfl⟩, e78, kvs, N, m, x, w8, kd, hN, ts⟩ := hj
      rw [List.getElem?_map] at hd
      obtain ⟨k, hk, rfl⟩ := Option.map_eq_some_iff.mp hd
      obtain rfl := dd_int hv
      have hkr := tp.lv.rg k (List.mem_of_getElem? hk)
      have hin : i < n := by have := (List.getElem?_eq_some_iff.mp hk).1; omega
      have hkl := kd.len
      dsimp only [gName]
      refine wl_if w8 (b := !(m k).isSome) (et_val (K := K) (ev_inin (Dx.ev_var (P := DicI m) (i := 5) rfl upc_dicI (own_dicI w8 kd)) (ed_var (i := 3) rfl (.int k)))) (fun hb H9 w9 => ?_) (fun hb H9 w9 => ?_)
      · have hbn : bnd n rs k := Classical.byContradiction fun hnb => by
          rw [ts.has k hkr (.inl hnb)] at hb
          cases hb
        have hne : ((gdL n rs).filter fun r => hdI r == k).map (szZ x) ≠ [] := by
          obtain ⟨r, hr, he⟩ := live_rule g hbn.2.1
          intro z
          rw [List.map_eq_nil_iff] at z
          have : r ∈ (gdL n rs).filter fun r => hdI r == k := List.mem_filter.mpr ⟨hr, beq_iff_eq.mpr he⟩
          rw [z] at this
          cases this
        obtain ⟨M, hM, hMx⟩ := max_ex hne
        have eS := w9.shut.2.1
        have hgl : (gdL n rs).length ≤ 9 := Nat.le_trans (List.length_filter_le _ _) l9
        refine ws_iput (K := K) (n := M) w9 (i := 5) rfl (ev_cb (eds_cons (ed_is (ed_lcD (K := K) (ds := gdL n rs) (fun r => hdI r == k) (fun r => .int (szZ x r)) (ev_seqL (ed_LR (i := 0) (j := 1) rfl rfl (upc_ins _ _ _ (e78.trans eS) hp) g (hl.up (e78.trans eS)) (by omega))) (by omega) (fun _ => rfl) (fun r u B9 hm e9 hu => ?_) (fun r u B9 hm hq e9 hu => ?_)) (by rw [show (fun r => PyData.int (szZ x r)) = PyData.int ∘ szZ x from rfl, ← List.map_map])) eds_nil) (rc_max hM hMx)) (ed_var (i := 3) rfl (.int k)) (by omega) fun H10 w10 => ?_
        · exact et_is (et_cmp (ed_op (ed_hd (i := 8) rfl hu (gd_rf g r hm)) (ed_var (i := 3) rfl (.int k)) (rd_eqD rfl rfl))) (eqv_int _ _)
        · have he : hdI r = k := beq_iff_eq.mp hq
          exact ed_WB (i := 8) (j := 5) rfl rfl hu (gd_rf g r hm) (upc_dicI _ _ _ e9 (own_dicI w9 kd)) fun p hp => (ts.parts g tp hk hbn hm he p hp).2
        · refine ⟨B8, e8, ⟨_, rfl⟩, e78, _, N + 1, _, _, w10, kd.put k M, by omega, ts.put g tp hk hbn ?_ fun r hr he => hMx _ (List.mem_map.mpr ⟨r, List.mem_filter.mpr ⟨hr, beq_iff_eq.mpr he⟩, rfl⟩)⟩
          obtain ⟨r, hr, e⟩ := List.mem_map.mp hM
          exact ⟨r, (List.mem_filter.mp hr).1, beq_iff_eq.mp (List.mem_filter.mp hr).2, e⟩
      · have hnb : ¬ bnd n rs k := fun hbn => by
          rw [ts.no k hbn (ts_fresh tp.lv.nd hk)] at hb
          cases hb
        exact ⟨B8, e8, ⟨_, rfl⟩, e78, kvs, N, m, x, w9, kd, by omega, ts.skip hk hkr hnb⟩
    obtain ⟨⟨o3, rfl⟩, e78, kvs, N, m, x, w8, kd, hN, ts⟩ := hj
    rw [List.length_map, hO] at ts
    obtain ⟨len, has⟩ := ts.done tp hO
    obtain ⟨w9, e9⟩ := w8.drop
    have dic : DicI m (.ref na) (upd B8 na (.dK kvs)) := ⟨na, kvs, N, rfl, upd_same, kd⟩
    have hp := upc_ins _ _ _ (e78.trans e9) hp
    refine ws_ret w9 (ev_cb (eds_cons (ed_is (ed_lcR (K := K) (n := (n : Nat)) (fun _ => true) (fun i : Nat => .int (x (i : Nat))) (eds_cons (ev_kinds T (i := 0) rfl hp) eds_nil) ⟨by omega, by omega⟩ (fun _ => rfl) (fun i B6 hi e6 => et_yes) (fun i B6 hi _ e6 => ev_iget (m := m) (Dx.ev_var (P := DicI m) (i := 5) rfl upc_dicI (upc_dicI _ _ _ e6 dic)) (ed_var (i := 3) rfl (.int (i : Int))) (has _ ⟨by omega, by omega⟩))) (by rw [List.filter_eq_self.mpr (fun _ _ => rfl)]; rfl)) eds_nil) rc_tupL) fun v9 B9 H9 w10 e10 g9 => q _ B9 H9 x w10.st len g9

end
end K33

namespace K33
open PySem PySem.Spec PyProof.Rows L2 Evl Ex Dx StX
open PySem.PyData (strOk)
section
variable {P : Program} {w : World} {K : PySem.W.Frag} {mg : Str → Option Value} {base : Heap} {f : Addr} {fd : FuncData}

theorem filter_any {α : Type} (l : List α) (p : α → Bool) : (!(l.filter p).isEmpty) = l.any p := by
  induction l with
  | nil => rfl
  | cons x l ih =>
    rw [List.filter_cons, List.any_cons]
    cases h : p x with
    | true => rw [if_pos rfl]; rfl
    | false => rw [if_neg Bool.false_ne_true, ih]; rfl


/-! ### the law's way to the lengths: values that grow -/
theorem sum_mono {x y : Int → Int} (h : ∀ p, x p ≤ y p) : ∀ l : List Int, (l.map x).sum ≤ (l.map y).sum
  | [] => Int.le_refl _
  | a :: l => by
    have := sum_mono h l
    have := h a
    rw [List.map_cons, List.map_cons, List.sum_cons, List.sum_cons]
    omega
theorem sz_mono {x y : Int → Int} (h : ∀ p, x p ≤ y p) (r : PyData) : szZ x r ≤ szZ y r := by
  unfold szZ
  split
  · exact Int.le_refl _
  · exact sum_mono h _
theorem sum_ones {x : Int → Int} : ∀ l : List Int, (∀ p ∈ l, 1 ≤ x p) → 0 ≤ (l.map x).sum
  | [], _ => Int.le_refl _
  | a :: l, h => by
    have h1 := sum_ones l fun p hp => h p (List.mem_cons_of_mem _ hp)
    have h2 := h a List.mem_cons_self
    rw [List.map_cons, List.sum_cons]
    omega
theorem sz_pos {x : Int → Int} {r : PyData} (h : ∀ p ∈ prtL r, 1 ≤ x p) : 1 ≤ szZ x r := by
  unfold szZ
  split
  · exact Int.le_refl _
  · rename_i hne
    cases hp : prtL r with
    | nil => rw [hp] at hne; exact absurd rfl hne
    | cons a l =>
      rw [hp] at h
      have h1 := sum_ones l fun p hq => h p (List.mem_cons_of_mem _ hq)
      have h2 := h a List.mem_cons_self
      rw [List.map_cons, List.sum_cons]
      omega
def okP (x : Int → Int) (r : PyData) : Bool := (prtL r).all fun p => decide (1 ≤ x p)
theorem okP_iff {x : Int → Int} {r : PyData} : okP x r = true ↔ ∀ p ∈ prtL r, 1 ≤ x p := by
  unfold okP
  rw [List.all_eq_true]
  exact ⟨fun h p hp => of_decide_eq_true (h p hp), fun h p hp => decide_eq_true (h p hp)⟩
def maxI (a b : Int) : Int := if b > a then b else a
theorem maxI_l (a b : Int) : a ≤ maxI a b := by
  unfold maxI
  split <;> omega
theorem maxI_r (a b : Int) : b ≤ maxI a b := by
  unfold maxI
  split <;> omega
def setX (x : Int → Int) (k v : Int) : Int → Int := fun j => if j = k then v else x j
def upX (E : List (Int × Int)) (n : Nat) (x : Int → Int) (r : PyData) : Int → Int := if wdB E n (hdI r) = true then x else if okP x r = true then setX x (hdI r) (maxI (x (hdI r)) (szZ x r)) else x
section
variable {n : Nat} {rs : List PyData} {O : List Int} {t i : Nat} {x : Int → Int} {k : Int} {r : PyData}
structure LI (n : Nat) (rs : List PyData) (O : List Int) (t : Nat) (x : Int → Int) : Prop where
  wide : ∀ k, (0 ≤ k ∧ k < (n : Int)) → wdB (lE n rs) n k = true → x k = -2
  dead : ∀ k, (0 ≤ k ∧ k < (n : Int)) → k ∉ liveL rs n → x k = -1
  up : ∀ k, bnd n rs k → x k = -1 ∨ (1 ≤ x k ∧ ∃ r ∈ gdL n rs, hdI r = k ∧ (∀ p ∈ prtL r, 1 ≤ x p) ∧ x k ≤ szZ x r)
  fin : ∀ k ∈ O.take t, bnd n rs k → ∀ r ∈ gdL n rs, hdI r = k → (∀ p ∈ prtL r, 1 ≤ x p) ∧ szZ x r ≤ x k
structure LJ (n : Nat) (rs : List PyData) (O : List Int) (t i : Nat) (x : Int → Int) : Prop extends LI n rs O t x where
  part : ∀ k ∈ O.take (t + 1), bnd n rs k → ∀ r ∈ (gdL n rs).take i, hdI r = k → (∀ p ∈ prtL r, 1 ≤ x p) ∧ szZ x r ≤ x k
theorem dead_wd (g : Gs n rs) (hl : k ∉ liveL rs n) : wdB (lE n rs) n k = false := by
  cases h : wdB (lE n rs) n k with
  | false => rfl
  | true =>
    obtain ⟨j, hj, h2⟩ := (wd_iff (g.eg _)).mp h
    have : ∃ b, (k, b) ∈ lE n rs := by
      rcases hj with rfl | hj
      · exact rch_src (g.eg _) h2
      · exact rch_src (g.eg _) hj
    obtain ⟨b, hb⟩ := this
    obtain ⟨r, hr, rfl, _⟩ := stE_mem.mp hb
    exact absurd (gd_head g hr) hl
theorem li_start (g : Gs n rs) : LI n rs O 0 (fun k => if wdB (lE n rs) n k = true then -2 else -1) := by
  refine ⟨fun k hk h => if_pos h, fun k hk hl => if_neg (by rw [dead_wd g hl]; decide), fun k hb => .inl (if_neg (by rw [hb.2.2]; decide)), fun k hk => by rw [List.take_zero] at hk; cases hk⟩
theorem LI.pos (g : Gs n rs) (h : LI n rs O t x) (hk : k ∈ O.take t) (hb : bnd n rs k) : 1 ≤ x k := by
  obtain ⟨r, hr, he⟩ := live_rule g hb.2.1
  obtain ⟨h1, h2⟩ := h.fin k hk hb r hr he
  have := sz_pos h1
  omega
theorem topo_part (g : Gs n rs) (tp : Topo (bE n rs) n O) (hk : k ∈ O.take (t + 1)) (hb : bnd n rs k) (hr : r ∈ gdL n rs) (he : hdI r = k) {p : Int} (hp : p ∈ prtL r) : p ∈ O.take t := by
  obtain ⟨a, ha⟩ := List.getElem?_of_mem hk
  have hlt : a < t + 1 := by
    have := (List.getElem?_eq_some_iff.mp ha).1
    rw [List.length_take] at this
    omega
  rw [List.getElem?_take_of_lt hlt] at ha
  have h1 := tp.ord a k ha p (he ▸ bnd_edge g hr (he ▸ hb) hp)
  have : O.take a = (O.take t).take a := by rw [List.take_take, Nat.min_eq_left (by omega)]
  rw [this] at h1
  exact List.mem_of_mem_take h1
theorem LI.start (h : LI n rs O t x) : LJ n rs O t 0 x := ⟨h, fun k _ _ r hr => by rw [List.take_zero] at hr; cases hr⟩
theorem LJ.done (h : LJ n rs O t (gdL n rs).length x) : LI n rs O (t + 1) x := ⟨h.wide, h.dead, h.up, fun k hk hb r hr he => h.part k hk hb r (by rw [List.take_length]; exact hr) he⟩
theorem LJ.step (g : Gs n rs) (tp : Topo (bE n rs) n O) (h : LJ n rs O t i x) (hi : (gdL n rs)[i]? = some r) : LJ n rs O t (i + 1) (upX (lE n rs) n x r) := by
  have hr := List.mem_of_getElem? hi
  have hh := gd_head g hr
  have hrg := (gd_rf g r hr).hd
  have mm : ∀ r', r' ∈ (gdL n rs).take (i + 1) ↔ r' ∈ (gdL n rs).take i ∨ r' = r := fun r' => by rw [take_snoc hi, List.mem_append, List.mem_singleton]
  unfold upX
  by_cases hw : wdB (lE n rs) n (hdI r) = true
  · rw [if_pos hw]
    refine ⟨h.toLI, fun k hk hb r' hr' he => ?_⟩
    rcases (mm r').mp hr' with h1 | rfl
    · exact h.part k hk hb r' h1 he
    · have := hb.2.2
      rw [← he, hw] at this
      cases this
  · rw [if_neg hw]
    have hbh : bnd n rs (hdI r) := ⟨hrg, hh, by simpa using hw⟩
    by_cases hok : okP x r = true
    · rw [if_pos hok]
      have ok := okP_iff.mp hok
      have hs1 := sz_pos ok
      have mono : ∀ p, x p ≤ setX x (hdI r) (maxI (x (hdI r)) (szZ x r)) p := fun p => by
        unfold setX
        by_cases e : p = hdI r
        · rw [if_pos e, e]
          exact maxI_l _ _
        · rw [if_neg e]
          exact Int.le_refl _
      have ne : ∀ p, p ≠ hdI r → setX x (hdI r) (maxI (x (hdI r)) (szZ x r)) p = x p := fun p e => if_neg e
      have at_ : setX x (hdI r) (maxI (x (hdI r)) (szZ x r)) (hdI r) = maxI (x (hdI r)) (szZ x r) := if_pos rfl
      have same : ∀ k ∈ O.take (t + 1), bnd n rs k → ∀ r' ∈ gdL n rs, hdI r' = k → szZ (setX x (hdI r) (maxI (x (hdI r)) (szZ x r))) r' = szZ x r' := fun k hk hb r' hr' he => sz_congr fun p hp => by
        by_cases e : p = hdI r
        · have hp2 := topo_part g tp hk hb hr' he hp
          have := (h.fin p hp2 (e ▸ hbh) r hr e.symm).2
          rw [e, at_]
          rw [e] at this
          unfold maxI
          rw [if_neg (by omega)]
        · exact ne p e
      generalize hy : setX x (hdI r) (maxI (x (hdI r)) (szZ x r)) = y at mono ne at_ same
      refine ⟨⟨fun k hk hwk => ?_, fun k hk hl => ?_, fun k hb => ?_, fun k hk hb r' hr' he => ?_⟩, fun k hk hb r' hr' he => ?_⟩
      · rw [ne k fun e => hw (e ▸ hwk)]
        exact h.wide k hk hwk
      · rw [ne k fun e => hl (e ▸ hh)]
        exact h.dead k hk hl
      · have old : x k ≤ y k → (x k = y k) → x k = -1 ∨ (1 ≤ x k ∧ ∃ r ∈ gdL n rs, hdI r = k ∧ (∀ p ∈ prtL r, 1 ≤ x p) ∧ x k ≤ szZ x r) → y k = -1 ∨ (1 ≤ y k ∧ ∃ r ∈ gdL n rs, hdI r = k ∧ (∀ p ∈ prtL r, 1 ≤ y p) ∧ y k ≤ szZ y r) := fun _ e h0 => by
          rcases h0 with h0 | ⟨h0, r0, hr0, he0, hp0, hs0⟩
          · exact .inl (e ▸ h0)
          · refine .inr ⟨e ▸ h0, r0, hr0, he0, fun p hp => Int.le_trans (hp0 p hp) (mono p), ?_⟩
            rw [← e]
            exact Int.le_trans hs0 (sz_mono mono r0)
        by_cases e : k = hdI r
        · subst e
          by_cases hc : szZ x r > x (hdI r)
          · have ey : y (hdI r) = szZ x r := by
              rw [at_]
              unfold maxI
              rw [if_pos hc]
            refine .inr ⟨by rw [ey]; exact hs1, r, hr, rfl, fun p hp => Int.le_trans (ok p hp) (mono p), ?_⟩
            rw [ey]
            exact sz_mono mono r
          · refine old (mono _) ?_ (h.up _ hb)
            rw [at_]
            unfold maxI
            rw [if_neg hc]
        · exact old (mono _) (ne k e).symm (h.up _ hb)
      · obtain ⟨h1, h2⟩ := h.fin k hk hb r' hr' he
        refine ⟨fun p hp => Int.le_trans (h1 p hp) (mono p), ?_⟩
        rw [same k (List.mem_of_mem_take (i := t) (by rw [List.take_take, Nat.min_eq_left (by omega)]; exact hk)) hb r' hr' he]
        exact Int.le_trans h2 (mono k)
      · have hr2 : r' ∈ gdL n rs := List.mem_of_mem_take hr'
        rw [same k hk hb r' hr2 he]
        rcases (mm r').mp hr' with h1 | rfl
        · obtain ⟨h2, h3⟩ := h.part k hk hb r' h1 he
          exact ⟨fun p hp => Int.le_trans (h2 p hp) (mono p), Int.le_trans h3 (mono k)⟩
        · refine ⟨fun p hp => Int.le_trans (ok p hp) (mono p), ?_⟩
          rw [← he, at_]
          exact maxI_r _ _
    · rw [if_neg hok]
      refine ⟨h.toLI, fun k hk hb r' hr' he => ?_⟩
      rcases (mm r').mp hr' with h1 | rfl
      · exact h.part k hk hb r' h1 he
      · exact absurd (okP_iff.mpr fun p hp => h.toLI.pos g (topo_part g tp hk hb hr he hp) (bnd_part g hr hbh hp)) hok
theorem LI.lens (g : Gs n rs) (tp : Topo (bE n rs) n O) (hO : O.length = n) (h : LI n rs O (n + 1) x) : LenS n rs x := by
  have full : O.take (n + 1) = O := List.take_of_length_le (by omega)
  have hm : ∀ k, (0 ≤ k ∧ k < (n : Int)) → k ∈ O.take (n + 1) := fun k hk => by
    rw [full]
    exact lv_all tp.lv (by omega) hk
  refine ⟨h.dead, fun k hk _ hw => h.wide k hk hw, fun k hb => ⟨?_, fun r hr he => (h.fin k (hm k hb.1) hb r hr he).2⟩⟩
  have hp := h.pos g (hm k hb.1) hb
  rcases h.up k hb with h0 | ⟨_, r, hr, he, _, hs⟩
  · omega
  · exact ⟨r, hr, he, Int.le_antisymm (h.fin k (hm k hb.1) hb r hr he).2 hs⟩
end
theorem min_ex : ∀ {ns : List Int}, ns ≠ [] → ∃ M ∈ ns, ∀ a ∈ ns, M ≤ a
  | [], h => absurd rfl h
  | [a], _ => ⟨a, List.mem_singleton.mpr rfl, fun b hb => by rw [List.mem_singleton.mp hb]; exact Int.le_refl a⟩
  | a :: b :: l, _ => by
    obtain ⟨M, hM, h⟩ := min_ex (ns := b :: l) fun z => nomatch z
    by_cases hc : M ≤ a
    · exact ⟨M, List.mem_cons_of_mem _ hM, fun y hy => by
        rcases List.mem_cons.mp hy with rfl | hy
        · exact hc
        · exact h y hy⟩
    · exact ⟨a, List.mem_cons_self, fun y hy => by
        rcases List.mem_cons.mp hy with rfl | hy
        · exact Int.le_refl _
        · have := h y hy
          omega⟩
theorem min_ok {x : Int → Int} {r : PyData} {M : Int} (hM : M ∈ 1 :: (prtL r).map x) (h : ∀ a ∈ 1 :: (prtL r).map x, M ≤ a) : decide (0 < M) = okP x r := by
  rw [Bool.eq_iff_iff, decide_eq_true_eq, okP_iff]
  constructor
  · intro h0 p hp
    have := h (x p) (List.mem_cons_of_mem _ (List.mem_map.mpr ⟨p, hp, rfl⟩))
    omega
  · intro hp
    rcases List.mem_cons.mp hM with rfl | hM
    · decide
    · obtain ⟨p, h1, rfl⟩ := List.mem_map.mp hM
      have := hp p h1
      omega
/-- kind in round_kinds or [one for one in _law_below(..) if one in round_kinds] != [] -/
theorem wide_wd {E : List (Int × Int)} {n : Nat} {k : Int} (g : Eg n E) (hk : 0 ≤ k ∧ k < (n : Int)) : ((((List.range n).filter fun i : Nat => rchB E n (i : Int) (i : Int)).map fun i : Nat => (i : Int)).contains k || !(((Gm.turns E k (n + 1)).filter fun j => (((List.range n).filter fun i : Nat => rchB E n (i : Int) (i : Int)).map fun i : Nat => (i : Int)).contains j).isEmpty)) = wdB E n k := by
  have mem : ∀ j : Int, (((List.range n).filter fun i : Nat => rchB E n (i : Int) (i : Int)).map fun i : Nat => (i : Int)).contains j = true ↔ Gm.Rch E j j := fun j => by
    rw [List.contains_iff_mem, List.mem_map]
    constructor
    · rintro ⟨i, hi, rfl⟩
      exact (rch_iff g).mp (List.mem_filter.mp hi).2
    · intro hr
      have := rch_in g hr
      have en : ((j.toNat : Nat) : Int) = j := by omega
      exact ⟨j.toNat, List.mem_filter.mpr ⟨List.mem_range.mpr (by omega), by rw [en]; exact (rch_iff g).mpr hr⟩, en⟩
  rw [Bool.eq_iff_iff, Bool.or_eq_true, wd_iff g, mem, filter_any, List.any_eq_true]
  constructor
  · rintro (h | ⟨j, hj, h2⟩)
    · exact ⟨k, .inl rfl, h⟩
    · exact ⟨j, .inr ((Gm.turns_all fun a b h => (g.rg a b h).2) j |>.mp hj), (mem j).mp h2⟩
  · rintro ⟨j, rfl | hj, h2⟩
    · exact .inl h2
    · exact .inr ⟨j, (Gm.turns_all fun a b h => (g.rg a b h).2) j |>.mpr hj, (mem j).mpr h2⟩

end
end K33

namespace K33
open PySem PySem.Spec PyProof.Rows L2 Evl Ex Dx StX
open PySem.PyData (strOk)
section
variable {P : Program} {w : World} {K : PySem.W.Frag} {mg : Str → Option Value} {base : Heap} {f : Addr} {fd : FuncData}


/-! ### _law_lengths -/
theorem eqv_nilT : ∀ ds : List PyData, PyData.eqv (.tuple ds) (.tuple []) = ds.isEmpty
  | [] => by simp [PyData.eqv, PyData.eqvAll]
  | _ :: _ => by simp [PyData.eqv, PyData.eqvAll]
def rgM (x : Int → Int) (i : Nat) : IMp := fun k => if 0 ≤ k ∧ k < (i : Int) then some (x k) else none
theorem rgM_zero (x : Int → Int) : rgM x 0 = fun _ => none := by
  funext k
  unfold rgM
  rw [if_neg (by omega)]
theorem rgM_put (x : Int → Int) (i : Nat) : iput (rgM x i) (i : Nat) (x (i : Nat)) = rgM x (i + 1) := by
  funext k
  unfold iput rgM
  by_cases e : k = (i : Int)
  · subst e
    rw [if_pos rfl, if_pos (by omega)]
  · rw [if_neg e]
    by_cases h2 : 0 ≤ k ∧ k < (i : Int)
    · rw [if_pos h2, if_pos (by omega)]
    · rw [if_neg h2, if_neg (by omega)]
theorem rgM_set (x : Int → Int) {n : Nat} {h v : Int} (hh : 0 ≤ h ∧ h < (n : Int)) : iput (rgM x n) h v = rgM (setX x h v) n := by
  funext k
  unfold iput rgM setX
  by_cases e : k = h
  · subst e
    rw [if_pos rfl, if_pos hh, if_pos rfl]
  · rw [if_neg e]
    by_cases h2 : 0 ≤ k ∧ k < (n : Int)
    · rw [if_pos h2, if_pos h2, if_neg e]
    · rw [if_neg h2, if_neg h2]
theorem rgM_at (x : Int → Int) {n : Nat} {k : Int} (hk : 0 ≤ k ∧ k < (n : Int)) : rgM x n k = some (x k) := if_pos hk
theorem rc_max2 {F : Fm} {B : Hp} {i j : Int} : RDc F K (fun xs H Q => ∃ i j, xs = [.int i, .int j] ∧ Q (.int (if j > i then j else i)) H) B [.int i, .int j] (.int (maxI i j)) := fun B1 e0 H us jj hu Q q => by
  obtain rfl := dds2 hu
  exact ⟨i, j, rfl, q _ B1 H (Step.refl jj.e) jj (.int _)⟩
def wdL (E : List (Int × Int)) (n : Nat) : List Int := ((List.range n).filter fun i : Nat => wdB E n (i : Int)).map fun i : Nat => (i : Int)
def rdL (E : List (Int × Int)) (n : Nat) : List Int := ((List.range n).filter fun i : Nat => rchB E n (i : Int) (i : Int)).map fun i : Nat => (i : Int)
theorem wdL_has {E : List (Int × Int)} {n : Nat} {k : Int} (hk : 0 ≤ k ∧ k < (n : Int)) : (wdL E n).contains k = wdB E n k := by
  rw [Bool.eq_iff_iff, List.contains_iff_mem]
  unfold wdL
  rw [List.mem_map]
  constructor
  · rintro ⟨i, hi, rfl⟩
    exact (List.mem_filter.mp hi).2
  · intro h
    have en : ((k.toNat : Nat) : Int) = k := by omega
    exact ⟨k.toNat, List.mem_filter.mpr ⟨List.mem_range.mpr (by omega), by rw [en]; exact h⟩, en⟩
def spLL (K : PySem.W.Frag) : Sp := fun vs H Q _ => ∃ (B : Hp) (vg : V) (n : Nat) (rs : List PyData), vs = [vg] ∧ Ex B H ∧ Dd K B vg (.tuple [.int (n : Nat), .tuple rs]) ∧ Gs n rs ∧ ∀ v' B' H' (x : Int → Int), Step (fun _ => False) B H B' H' → LenS n rs x → Dd K B' v' (.tuple ((List.range n).map fun k : Nat => .int (x k))) → Q v' H'

abbrev s_law_lengths : Stmt := topS 59
abbrev N_law_lengths : List Str := ["grammar", "kinds", "rules", "live", "rule", "good", "steps", "kind", "round_kinds", "wide", "found", "turn", "size", "part", "one"]
theorem sc_law_lengths : FnScope N_law_lengths ["grammar"] (defScope s_law_lengths) := ⟨rfl, rfl, rfl, by decide +kernel, rfl, by decide +kernel, by decide +kernel⟩
theorem ok_law_lengths (F : Fun K "_law_lengths" "_law_lengths" s_law_lengths f fd) (T : TC K mg) (m_sum : mg "sum" = none) (m_max : mg "max" = none) (m_min : mg "min" = none) (C_law_parts : Callee P w K mg base "_law_parts" 1 ["rule"] (spF K preRF fPts)) (C_law_live : Callee P w K mg base "_law_live" 2 ["grammar"] (spF K preGr fLLv)) (C_law_below : Callee P w K mg base "_law_below" 1 ["steps", "kind", "kinds"] (spF K preB fBel)) (C_law_comes_back : Callee P w K mg base "_law_comes_back" 2 ["steps", "kind", "kinds"] (spF K preB fBack2)) : FnOk P w K mg base CX0 3 f fd ["grammar"] (spLL K) := by
  refine F.ok sc_law_lengths (fun vs H Q E h => ?_) (fun cdv A outer s H vs Q E hr h => ?_)
  · obtain ⟨B, vg, n, rs, rfl, _⟩ := h
    rfl
  · obtain ⟨B, vg, n, rs, rfl, e, hg, g, q⟩ := h
    have hu64 : (A.deeper (envOfC "_law_lengths" (defScope s_law_lengths) s.heap.objs.size f cdv)).units + 64 < cLine := hr.units
    have hu1 : (A.deeper (envOfC "_law_lengths" (defScope s_law_lengths) s.heap.objs.size f cdv)).units + 1 < cLine := by omega
    refine ⟨_, (pss_cons (ps_asg (pv 0) (pg_tup (by rfl) (pgs_cons (pg_name (i := 1) sc_law_lengths.nd rfl (Or.inr rfl)) (pgs_cons (pg_name (i := 2) sc_law_lengths.nd rfl (Or.inl rfl)) pgs_nil))))
      (pss_cons (ps_set (i := 3) sc_law_lengths.nd rfl (Or.inr rfl) (pe_callC C_law_live (hr.mono (by decide)) rfl pass0 (pa_cons (pv 0) pa_nil)))
      (pss_cons (ps_setLc (i := 5) (own := [("rule", 4)]) rfl sc_law_lengths.nd rfl rfl (sw_true rfl rfl rfl (by decide +kernel)) (pi_seqK K (pv 2)) (blkOk_by (own := [("rule", 4)]) (N := N_law_lengths) (sc := defScope s_law_lengths) (by decide +kernel)) (fun _ _ _ _ _ => pg_name (i := 4) sc_law_lengths.nd rfl (Or.inl rfl)) (fun _ _ _ _ _ => (pts_one (pt_cmpR (op_eqDK K hu64) (pe_lc (own := [("part", 13)]) rfl sc_law_lengths.nd (pi_seqK K (pe_callC C_law_parts (hr.mono (by decide)) rfl pass0 (pa_cons (pv 4) pa_nil))) (blkOk_by (own := [("part", 13)]) (N := N_law_lengths) (sc := { kind := .function, names := [(".0", .local), ("rule", .local), ("_law_parts", .globalImplicit), ("live", .cell)], isGenerator := false, isCoroutine := false }) (by decide +kernel)) (fun _ _ _ _ _ => pg_name (i := 13) sc_law_lengths.nd rfl (Or.inl rfl)) (fun _ _ _ _ _ => (pts_one (pt_cmpR (op_ninK K) (pv 13) (pv 3) (by rfl)))) (fun _ _ _ _ _ => (pv 13))) (pe_lst pa_nil) (nomark _)))) (fun _ _ _ _ _ => (pv 4)))
      (pss_cons (ps_set (i := 6) sc_law_lengths.nd rfl (Or.inr rfl) (pe_lst pa_nil))
      (pss_cons (ps_for PassesOwn.never rfl (pi_seqK K (pv 5)) (pg_name (i := 4) sc_law_lengths.nd rfl (Or.inr rfl)) (pss_one (ps_set (i := 6) sc_law_lengths.nd rfl (Or.inr rfl) (pe_op (op_addK K) (pv 6) (pe_lc (own := [("part", 13)]) rfl sc_law_lengths.nd (pi_seqK K (pe_callC C_law_parts (hr.mono (by decide)) rfl pass0 (pa_cons (pv 4) pa_nil))) (blkOk_by (own := [("part", 13)]) (N := N_law_lengths) (sc := defScope s_law_lengths) (by decide +kernel)) (fun _ _ _ _ _ => pg_name (i := 13) sc_law_lengths.nd rfl (Or.inl rfl)) (fun _ _ _ _ _ => pts_nil) (fun _ _ _ _ _ => (pe_tup (pa_cons (pe_ix (ix_seqK K) (pv 4) pe_int (fun _ _ => rfl)) (pa_cons (pv 13) pa_nil)))))))))
      (pss_cons (ps_set (i := 8) sc_law_lengths.nd rfl (Or.inr rfl) (pe_lc (own := [("kind", 7)]) rfl sc_law_lengths.nd (pi_range1 rfl T.m_range (pa_cons (pv 1) pa_nil)) (blkOk_by (own := [("kind", 7)]) (N := N_law_lengths) (sc := defScope s_law_lengths) (by decide +kernel)) (fun _ _ _ _ _ => pg_name (i := 7) sc_law_lengths.nd rfl (Or.inl rfl)) (fun _ _ _ _ _ => (pts_one (pt_val (pe_callC C_law_comes_back (hr.mono (by decide)) rfl pass0 (pa_cons (pv 6) (pa_cons (pv 7) (pa_cons (pv 1) pa_nil))))))) (fun _ _ _ _ _ => (pv 7))))
      (pss_cons (ps_setLc (i := 9) (own := [("kind", 7)]) rfl sc_law_lengths.nd rfl rfl (sw_true rfl rfl rfl (by decide +kernel)) (pi_range1 rfl T.m_range (pa_cons (pv 1) pa_nil)) (blkOk_by (own := [("kind", 7)]) (N := N_law_lengths) (sc := defScope s_law_lengths) (by decide +kernel)) (fun _ _ _ _ _ => pg_name (i := 7) sc_law_lengths.nd rfl (Or.inl rfl)) (fun _ _ _ _ _ => (pts_one (PW.pt (pw_or (pt_cmpR (op_inK K) (pv 7) (pv 8) (by rfl)) (pw_or1 (pt_cmpR (op_neDK K hu64) (pe_lc (own := [("one", 14)]) rfl sc_law_lengths.nd (pi_seqK K (pe_callC C_law_below (hr.mono (by decide)) rfl pass0 (pa_cons (pv 6) (pa_cons (pv 7) (pa_cons (pv 1) pa_nil))))) (blkOk_by (own := [("one", 14)]) (N := N_law_lengths) (sc := { kind := .function, names := [(".0", .local), ("kind", .local), ("_law_below", .globalImplicit), ("kinds", .cell), ("round_kinds", .cell), ("steps", .cell)], isGenerator := false, isCoroutine := false }) (by decide +kernel)) (fun _ _ _ _ _ => pg_name (i := 14) sc_law_lengths.nd rfl (Or.inl rfl)) (fun _ _ _ _ _ => (pts_one (pt_cmpR (op_inK K) (pv 14) (pv 8) (by rfl)))) (fun _ _ _ _ _ => (pv 14))) (pe_lst pa_nil) (nomark _))))))) (fun _ _ _ _ _ => (pv 7)))
      (pss_cons (ps_set (i := 10) sc_law_lengths.nd rfl (Or.inr rfl) pe_dnewK)
      (pss_cons (ps_for PassesOwn.never rfl (pi_range1 rfl T.m_range (pa_cons (pv 1) pa_nil)) (pg_name (i := 7) sc_law_lengths.nd rfl (Or.inl rfl)) (pss_one (ps_dput hu1 (pv 10) (pv 7) (pe_ifExp (pt_cmpR (op_inK K) (pv 7) (pv 9) (by rfl)) (pe_un un_neg pe_int) (pe_un un_neg pe_int)) rfl)))
      (pss_cons (ps_for PassesOwn.never rfl (pi_range1 rfl T.m_range (pa_cons (pe_op (op_addK K) (pv 1) pe_int) pa_nil)) (pg_name (i := 11) sc_law_lengths.nd rfl (Or.inl rfl)) (pss_one (ps_for PassesOwn.never rfl (pi_seqK K (pv 5)) (pg_name (i := 4) sc_law_lengths.nd rfl (Or.inr rfl)) (pss_one (ps_if (pt_cmpR (op_ninK K) (pe_ix (ix_seqK K) (pv 4) pe_int (fun _ _ => rfl)) (pv 9) (by rfl)) (pss_cons (ps_set (i := 12) sc_law_lengths.nd rfl (Or.inl rfl) (pe_ifExp (pt_cmpR (op_eqDK K hu64) (pe_callC C_law_parts (hr.mono (by decide)) rfl pass0 (pa_cons (pv 4) pa_nil)) (pe_tup pa_nil) (nomark _)) pe_int (pe_callB (cr_sumK K rfl) (by rfl) m_sum bt_sum (pa_cons (pe_lc (own := [("part", 13)]) rfl sc_law_lengths.nd (pi_seqK K (pe_callC C_law_parts (hr.mono (by decide)) rfl pass0 (pa_cons (pv 4) pa_nil))) (blkOk_by (own := [("part", 13)]) (N := N_law_lengths) (sc := defScope s_law_lengths) (by decide +kernel)) (fun _ _ _ _ _ => pg_name (i := 13) sc_law_lengths.nd rfl (Or.inl rfl)) (fun _ _ _ _ _ => pts_nil) (fun _ _ _ _ _ => (pe_dget hu1 (pv 10) (pv 13) (fun _ _ => rfl)))) pa_nil))))
      (pss_one (ps_if (pt_cmpR op_gt (pe_callB (cr_minLK K rfl) (by rfl) m_min bt_min (pa_cons (pe_op (op_addK K) (pe_lst (pa_cons pe_int pa_nil)) (pe_lc (own := [("part", 13)]) rfl sc_law_lengths.nd (pi_seqK K (pe_callC C_law_parts (hr.mono (by decide)) rfl pass0 (pa_cons (pv 4) pa_nil))) (blkOk_by (own := [("part", 13)]) (N := N_law_lengths) (sc := defScope s_law_lengths) (by decide +kernel)) (fun _ _ _ _ _ => pg_name (i := 13) sc_law_lengths.nd rfl (Or.inl rfl)) (fun _ _ _ _ _ => pts_nil) (fun _ _ _ _ _ => (pe_dget hu1 (pv 10) (pv 13) (fun _ _ => rfl))))) pa_nil)) pe_int (nomark _)) (pss_one (ps_dput hu1 (pv 10) (pe_ix (ix_seqK K) (pv 4) pe_int (fun _ _ => rfl)) (pe_callB (call_max2 rfl) (by rfl) m_max bt_max (pa_cons (pe_dget hu1 (pv 10) (pe_ix (ix_seqK K) (pv 4) pe_int (fun _ _ => rfl)) (fun _ _ => rfl)) (pa_cons (pv 12) pa_nil))) rfl)) pss_nil))) pss_nil)))))
      (pss_one (ps_ret (pe_callTy (call_tuple_ofK K) (by rfl) T.m_tuple bt_tuple (pa_cons (pe_lc (own := [("kind", 7)]) rfl sc_law_lengths.nd (pi_range1 rfl T.m_range (pa_cons (pv 1) pa_nil)) (blkOk_by (own := [("kind", 7)]) (N := N_law_lengths) (sc := defScope s_law_lengths) (by decide +kernel)) (fun _ _ _ _ _ => pg_name (i := 7) sc_law_lengths.nd rfl (Or.inl rfl)) (fun _ _ _ _ _ => pts_nil) (fun _ _ _ _ _ => (pe_dget hu1 (pv 10) (pv 7) (fun _ _ => rfl)))) pa_nil)))))))))))))), ?_⟩
    have n8 := g.n8
    have l9 := g.l9
    have eg := g.eg (liveL rs n)
    have hLl := live_len g
    have hgl : (gdL n rs).length ≤ 9 := Nat.le_trans (List.length_filter_le _ _) l9
    obtain ⟨O, tp, hO⟩ := topo_ex (bE_acy g) fun a b h => ((bE_eg g).rg a b h).2
    have a : At Fm.pure B H B H := At.start (Ok.any e)
    refine qv_unpP a (ed_var (i := 0) rfl hg) fun v1 v2 B1 H1 e1 a1 h1 h2 => ?_
    obtain rfl := dd_int h1
    have w1 : Ow Fm.pure B H B1 H1 [] := ⟨a1.st, a1.j, fun p hp => (nomatch hp), List.nodup_nil⟩
    have hg := hg.up e1
    refine wq_asg (P := DD K (.list ((liveL rs n).map .int))) w1 (ed_F (eds_cons (ed_var (i := 0) rfl hg) eds_nil) ⟨n, rs, rfl, g⟩ rfl) fun vl B2 H2 w2 e2 hl => ?_
    have h2 := h2.up e2
    refine wq_asg (P := DD K (.list (gdL n rs))) w2 (ed_is (ed_lcD (K := K) (ds := rs) (livB (liveL rs n)) (fun d => d) (ev_seqT (ed_var (i := 2) rfl h2)) (by omega) (fun _ => rfl) (fun r v B3 hm e3 hv => ?_) (fun r v B3 hm _ e3 hv => ed_var (i := 4) rfl hv)) (by rw [List.map_id']; rfl)) fun vgd B3 H3 w3 e3 hgd => ?_
    · have hrf := g.rf r hm
      have hpl := hrf.parts.1
      refine et_is (et_cmp (ed_op (ed_lcD (K := K) (ds := (prtL r).map .int) (fun d => !(liveL rs n).contains (numI d)) (fun d => d) (ev_seqT (ed_F (eds_cons (ed_var (i := 4) rfl hv) eds_nil) ⟨r, n, rfl, hrf⟩ rfl)) (by rw [List.length_map]; omega) (fun _ => rfl) (fun d u B8 hm e8 hu => ?_) (fun d u B8 hm _ e8 hu => ed_var (i := 13) rfl hu)) (ed_lst eds_nil) (rd_eqD ?_ rfl))) ?_
      · obtain ⟨x, _, rfl⟩ := List.mem_map.mp hm
        exact et_is (et_cmp (ed_op (ed_var (i := 13) rfl hu) (ed_var (i := 3) rfl (hl.up (e3.trans e8))) (rd_notin (.inl rfl) rfl (flatI _)))) (congrArg Bool.not (inD_int _ _))
      · rw [ints_filter]
        exact (sm_lst (n := 5) fun d hd => by
          obtain ⟨x, _, rfl⟩ := List.mem_map.mp hd
          exact sm_int).sh
      · rw [ints_filter, eqv_nil, ← liv_emp]
        show List.isEmpty (List.map PyData.int ((prtL r).filter fun x => !(liveL rs n).contains x)) = _
        rw [List.isEmpty_map]
    refine wq_asg w3 (ed_lst (K := K) eds_nil) fun vs B4 H4 w4 e4 hs => ?_
    have hgd := hgd.up e4
    refine oq_forD (K := K) (F := Fm.pure) (g := gName 4) (ds := gdL n rs) w4.k (ev_seqL (ed_var (i := 5) rfl hgd)) (fun i σ' B' H' => (∃ vs o4, σ' = [some vg, some (.int (n : Nat)), some v2, some vl, o4, some vgd, some vs, none, none, none, none, none, none, none, none] ∧ Dd K B' vs (.list ((stE ((gdL n rs).take i)).map toD))) ∧ Ex B4 B' ∧ Ow Fm.pure B H B' H' []) (fun i σ' B' H' ⟨_, _, w'⟩ => w'.k.e)
      (fun B5 H5 s5 k5 => ⟨⟨vs, _, rfl, hs.up s5.bb⟩, s5.bb, w4.pass s5 k5⟩) (fun Bb i r v σ' B5 H5 hri eb e5 hv hj => ?_) (fun σ' B5 H5 e5 hj => ?_)
    · obtain ⟨⟨vs, o4, rfl, hs⟩, e45, w5⟩ := hj
      have hrm := List.mem_of_getElem? hri
      have hrf := gd_rf g r hrm
      have hpl := hrf.parts.1
      dsimp only [gName]
      refine ws_asg w5 (ed_op (ed_var (i := 6) rfl hs) (ed_lcD (K := K) (ds := (prtL r).map .int) (fun _ => true) (fun d => .tuple [.int (hdI r), d]) (ev_seqT (ed_F (eds_cons (ed_var (i := 4) rfl hv) eds_nil) ⟨r, n, rfl, hrf⟩ rfl)) (by rw [List.length_map]; omega) (fun _ => rfl) (fun d u B8 hm e8 hu => et_yes) (fun d u B8 hm _ e8 hu => ed_tup (eds_cons (ed_hd (i := 4) rfl (hv.up e8) hrf) (eds_cons (ed_var (i := 13) rfl hu) eds_nil)))) (rd_addL ?_)) fun v6 B6 H6 w6 e6 h6 => ?_
      · have h1 := stE_len (n := n) (rows := (gdL n rs).take i) fun x hx => gd_rf g x (List.mem_of_mem_take hx)
        have h3 : ((gdL n rs).take i).length ≤ (gdL n rs).length := by rw [List.length_take]; exact Nat.min_le_right _ _
        rw [row_toD _ rfl, List.length_map, List.length_map, List.length_map]
        omega
      · refine ⟨B6, e5.trans e6, ⟨v6, _, rfl, ?_⟩, e45.trans e6, w6⟩
        rw [stE_snoc hri, List.map_append]
        rw [row_toD _ rfl] at h6
        exact h6
    obtain ⟨⟨vs, o4, rfl, hs⟩, e45, w5⟩ := hj
    rw [List.take_length] at hs
    have hs : Dd K B5 vs (.list ((lE n rs).map toD)) := hs
    have hgd := hgd.up e45
    refine wq_asg (P := DD K (.list ((rdL (lE n rs) n).map .int))) w5 (ed_is (ed_lcR (K := K) (n := (n : Nat)) (fun i : Nat => rchB (lE n rs) n (i : Int) (i : Int)) (fun i : Nat => .int (i : Int)) (eds_cons (ed_var (i := 1) rfl (.int (n : Nat))) eds_nil) ⟨by omega, by omega⟩ (fun _ => rfl) (fun i B6 hi e6 => et_val (ed_F (z := .bool (rchB (lE n rs) n (i : Int) (i : Int))) (eds_cons (ed_var (i := 6) rfl (hs.up e6)) (eds_cons (ed_var (i := 7) rfl (.int (i : Int))) (eds_cons (ed_var (i := 1) rfl (.int (n : Nat))) eds_nil))) ⟨lE n rs, n, _, rfl, eg.len, by omega⟩ (fBack2_eq _ _ _))) (fun i B6 hi _ e6 => ed_var (i := 7) rfl (.int (i : Int)))) (by unfold rdL; rw [List.map_map]; rfl)) fun vr B6 H6 w6 e6 hrd => ?_
    have hs := hs.up e6
    refine wq_asg (P := DD K (.list ((wdL (lE n rs) n).map .int))) w6 (ed_is (ed_lcR (K := K) (n := (n : Nat)) (fun i : Nat => wdB (lE n rs) n (i : Int)) (fun i : Nat => .int (i : Int)) (eds_cons (ed_var (i := 1) rfl (.int (n : Nat))) eds_nil) ⟨by omega, by omega⟩ (fun _ => rfl) (fun i B7 hi e7 => et_is (et_or (et_is (et_cmp (ed_op (ed_var (i := 7) rfl (.int (i : Int))) (ed_var (i := 8) rfl (hrd.up e7)) (rd_isin (.inl rfl) rfl (flatI _)))) (inD_int _ _)) fun _ => et_is (et_cmp (ed_op (ed_lcD (K := K) (ds := (Gm.turns (lE n rs) (i : Int) (n + 1)).map .int) (fun d => (rdL (lE n rs) n).contains (numI d)) (fun d => d) (ev_seqL (ed_F (eds_cons (ed_var (i := 6) rfl (hs.up e7)) (eds_cons (ed_var (i := 7) rfl (.int (i : Int))) (eds_cons (ed_var (i := 1) rfl (.int (n : Nat))) eds_nil))) ⟨lE n rs, n, _, rfl, eg.len, by omega⟩ (fBel_eq _ _ _))) (by
        have := turns_small (n := n) (k := (i : Int)) (t := n + 1) eg.len (by omega)
        rw [List.length_map]
        exact Nat.le_trans this (by decide)) (fun _ => rfl) (fun d u B8 hm e8 hu => ?_) (fun d u B8 hm _ e8 hu => ed_var (i := 14) rfl hu)) (ed_lst eds_nil) (rd_neD ?_ rfl))) ?_) (wide_wd eg ⟨by omega, hi⟩)) (fun i B7 hi _ e7 => ed_var (i := 7) rfl (.int (i : Int)))) (by unfold wdL; rw [List.map_map]; rfl)) fun vw B7 H7 w7 e7 hwd => ?_
    · obtain ⟨z, _, rfl⟩ := List.mem_map.mp hm
      exact et_is (et_cmp (ed_op (ed_var (i := 14) rfl hu) (ed_var (i := 8) rfl (hrd.up (e7.trans e8))) (rd_isin (.inl rfl) rfl (flatI _)))) (inD_int _ _)
    · rw [ints_filter]
      exact (sm_lst (n := 5) fun d hd => by
        obtain ⟨x, _, rfl⟩ := List.mem_map.mp hd
        exact sm_int).sh
    · rw [ints_filter, eqv_nil, List.isEmpty_map]
      rfl
    have hgd := hgd.up (e6.trans e7)
    refine wq_dictK (i := 10) w7 fun na w8 => ?_
    refine oq_rng1 (K := K) (F := Fm.pure) (n := (n : Nat)) (j := 7) w8.k (eds_cons (ed_var (i := 1) rfl (.int (n : Nat))) eds_nil) (by omega) (fun i σ' B' H' => (∃ o7, σ' = [some vg, some (.int (n : Nat)), some v2, some vl, o4, some vgd, some vs, o7, some vr, some vw, some (.ref na), none, none, none, none]) ∧ Ex B7 B' ∧ ∃ kvs N, Ow Fm.pure B H B' H' [(na, .dK kvs)] ∧ KD (rgM (fun k => if wdB (lE n rs) n k = true then -2 else -1) i) N kvs ∧ N ≤ i)
      (fun B9 H9 s9 k9 => ⟨⟨_, rfl⟩, s9.bb, [], 0, w8.pass s9 k9, by rw [rgM_zero]; exact kd_nil, Nat.le_refl _⟩) (fun Bc i σ' B9 H9 ec hi e9 hj => ?_) (fun σ' B9 H9 e9 hj => ?_)
    · obtain ⟨⟨o7, rfl⟩, e79, kvs, N, w9, kd, hN⟩ := hj
      have hkl := kd.len
      have eS := w9.shut.2.1
      refine ws_iput (K := K) (n := if wdB (lE n rs) n (i : Int) = true then -2 else -1) w9 (i := 10) rfl (ev_if (b := wdB (lE n rs) n (i : Int)) (et_is (et_cmp (ed_op (ed_var (i := 7) rfl (.int (i : Int))) (ed_var (i := 9) rfl (hwd.up (e79.trans eS))) (rd_isin (.inl rfl) rfl (flatI _)))) ((inD_int _ _).trans (wdL_has ⟨by omega, hi⟩))) (fun hb => by rw [if_pos hb]; exact ed_neg ed_int) (fun hb => by rw [if_neg (by rw [hb]; decide)]; exact ed_neg ed_int)) (ed_var (i := 7) rfl (.int (i : Int))) (by omega) fun H10 w10 => ⟨B9, e9, ⟨_, rfl⟩, e79, _, N + 1, w10, ?_, by omega⟩
      rw [← rgM_put]
      exact kd.put _ _
    obtain ⟨⟨o7, rfl⟩, e79, kvs, N, w9, kd, hN⟩ := hj
    have kd : KD (rgM (fun k => if wdB (lE n rs) n k = true then -2 else -1) n) N kvs := kd
    have hgd := hgd.up e79
    have hwd := hwd.up e79
    refine oq_rng1 (K := K) (F := Fm.pure) (n := (n : Nat) + 1) (j := 11) w9.k (eds_cons (ed_op (ed_var (i := 1) rfl (.int (n : Nat))) ed_int rd_add) eds_nil) (by omega) (fun t σ' B' H' => (∃ o4 o11 o12, σ' = [some vg, some (.int (n : Nat)), some v2, some vl, o4, some vgd, some vs, o7, some vr, some vw, some (.ref na), o11, o12, none, none]) ∧ Ex B9 B' ∧ ∃ kvs N x, Ow Fm.pure B H B' H' [(na, .dK kvs)] ∧ KD (rgM x n) N kvs ∧ N ≤ n + t * 9 ∧ LI n rs O t x)
      (fun B10 H10 s10 k10 => ⟨⟨_, _, _, rfl⟩, s10.bb, kvs, N, _, w9.pass s10 k10, kd, by omega, li_start g⟩) (fun Bc t σ' B10 H10 ec ht e10 hj => ?_) (fun σ' B10 H10 e10 hj => ?_)
    · obtain ⟨⟨o4, o11, o12, rfl⟩, e910, kvs, N, x, w10, kd, hN, li⟩ := hj
      refine os_forD (K := K) (F := Fm.pure) (g := gName 4) (ds := gdL n rs) w10.k (ev_seqL (ed_var (i := 5) rfl (hgd.up e910))) (fun i σ' B' H' => (∃ o4 o12, σ' = [some vg, some (.int (n : Nat)), some v2, some vl, o4, some vgd, some vs, o7, some vr, some vw, some (.ref na), some (.int (t : Int)), o12, none, none]) ∧ Ex B10 B' ∧ ∃ kvs N x, Ow Fm.pure B H B' H' [(na, .dK kvs)] ∧ KD (rgM x n) N kvs ∧ N ≤ n + t * 9 + i ∧ LJ n rs O t i x) (fun i σ' B' H' ⟨_, _, _, _, _, w', _⟩ => w'.k.e)
        (fun B11 H11 s11 k11 => ⟨⟨_, _, rfl⟩, s11.bb, kvs, N, x, w10.pass s11 k11, kd, by omega, li.start⟩) (fun Bd i r v σ' B11 H11 hri ed e11 hv hj => ?_) (fun σ' B11 H11 e11 hj => ?_)
      · obtain ⟨⟨o4, o12, rfl⟩, e1011, kvs, N, x, w11, kd, hN, lj⟩ := hj
        have hrm := List.mem_of_getElem? hri
        have hrf := gd_rf g r hrm
        have hpl := hrf.parts.1
        have hkl := kd.len
        have hil : i < 9 := by have := (List.getElem?_eq_some_iff.mp hri).1; omega
        have next := lj.step g tp hri
        dsimp only [gName]
        refine ws_if w11 (b := !wdB (lE n rs) n (hdI r)) (et_is (et_cmp (ed_op (ed_hd (i := 4) rfl hv hrf) (ed_var (i := 9) rfl (hwd.up (e910.trans e1011))) (rd_notin (.inl rfl) rfl (flatI _)))) (congrArg Bool.not ((inD_int _ _).trans (wdL_has hrf.hd)))) (fun hb B12 H12 w12 e12 => ?_) (fun hb B12 H12 w12 e12 => ?_)
        · have hw : ¬ wdB (lE n rs) n (hdI r) = true := by simpa using hb
          have lcE : ∀ {σ : L2.St} {B1 : Hp}, σ[4]? = some (some v) → σ[10]? = some (some (.ref na)) → Dd K B1 v r → DicI (rgM x n) (.ref na) B1 → (∀ z, ((wipe σ [13]).set 13 (some z))[10]? = some (some (.ref na)) ∧ ((wipe σ [13]).set 13 (some z))[13]? = some (some z) ∧ wipe ((wipe σ [13]).set 13 (some z)) [13] = wipe σ [13]) → ED Fm.pure K (tLc (iSeq K (tCall (spF K preRF fPts) [] E0 (tCons (tVar 4) tNil))) (gName 13) tYes (tDGet (tVar 10) (tVar 13)) [13]) σ B1 (.list (((prtL r).map x).map .int)) := fun s4 s10 hv1 hd1 hz => ed_is (ed_lcD (K := K) (ds := (prtL r).map .int) (fun _ => true) (fun d => .int (x (numI d))) (ev_seqT (ed_F (eds_cons (ed_var s4 hv1) eds_nil) ⟨r, n, rfl, hrf⟩ rfl)) (by rw [List.length_map]; omega) (fun z => (hz z).2.2) (fun d u B8 hm8 e8 hu => et_yes) (fun d u B8 hm8 _ e8 hu => by
              obtain ⟨z, hzm, rfl⟩ := List.mem_map.mp hm8
              exact ev_iget (m := rgM x n) (Dx.ev_var (P := DicI (rgM x n)) (hz u).1 upc_dicI (upc_dicI _ _ _ e8 hd1)) (ed_var (hz u).2.1 hu) (rgM_at x (hrf.parts.2 z hzm)))) (by
            rw [List.filter_eq_self.mpr (fun _ _ => rfl), List.map_map, List.map_map]
            rfl)
          have eS := w12.shut.2.1
          refine wl_asg (W := fun v => v = .int (szZ x r)) (i := 12) w12 (EV.imp (P := DD K (.int (szZ x r))) (ev_if (b := (prtL r).isEmpty) (et_is (et_cmp (ed_op (ed_F (eds_cons (ed_var (i := 4) rfl (hv.up (e12.trans eS))) eds_nil) ⟨r, n, rfl, hrf⟩ rfl) (ed_tup eds_nil) (rd_eqD (sm_tup (n := 5) fun d hd => by
            obtain ⟨y, _, rfl⟩ := List.mem_map.mp hd
            exact sm_int).sh rfl))) (by show PyData.eqv (.tuple ((prtL r).map .int)) (.tuple []) = (prtL r).isEmpty; rw [eqv_nilT, List.isEmpty_map])) (fun hb2 => by
              unfold szZ
              rw [if_pos hb2]
              exact ed_int) (fun hb2 => by
              unfold szZ
              rw [if_neg (by rw [hb2]; decide)]
              exact ev_cb (eds_cons (lcE rfl rfl (hv.up (e12.trans eS)) (own_dicI w12 kd) fun z => ⟨rfl, rfl, rfl⟩) eds_nil) rc_sum)) fun v _ _ gv => dd_int gv) fun v13 H13 w13 e13 => ?_
          subst e13
          obtain ⟨M, hM, hMn⟩ := min_ex (ns := 1 :: (prtL r).map x) fun z => nomatch z
          have eS3 := w13.shut.2.1
          refine wl_if w13 (b := okP x r) (et_is (et_cmp (ed_op (ev_cb (eds_cons (ed_is (ed_op (ed_lst (K := K) (ds := [.int 1]) (eds_cons ed_int eds_nil)) (lcE rfl rfl (hv.up (e12.trans eS3)) (own_dicI w13 kd) fun z => ⟨rfl, rfl, rfl⟩) (rd_addL (by rw [List.length_map, List.length_map]; show 1 + _ ≤ _; omega))) (by rfl : _ = PyData.list ((1 :: (prtL r).map x).map .int))) eds_nil) (rc_min hM hMn)) ed_int rd_gt)) (min_ok hM hMn)) (fun hok H14 w14 => ?_) (fun hok H14 w14 => ?_)
          · have eu : upX (lE n rs) n x r = setX x (hdI r) (maxI (x (hdI r)) (szZ x r)) := by
              unfold upX
              rw [if_neg hw, if_pos hok]
            have eS4 := w14.shut.2.1
            refine ws_iput (K := K) (n := maxI (x (hdI r)) (szZ x r)) w14 (i := 10) rfl (ev_cb (eds_cons (ev_iget (m := rgM x n) (Dx.ev_var (P := DicI (rgM x n)) (i := 10) rfl upc_dicI (own_dicI w14 kd)) (ed_hd (i := 4) rfl (hv.up (e12.trans eS4)) hrf) (rgM_at x hrf.hd)) (eds_cons (ed_var (i := 12) rfl (.int (szZ x r))) eds_nil)) rc_max2) (ed_hd (i := 4) rfl (hv.up (e12.trans eS4)) hrf) (by omega) fun H15 w15 => ⟨B12, e11.trans e12, ⟨_, _, rfl⟩, e1011.trans e12, _, N + 1, _, w15, ?_, by omega, next⟩
            rw [eu, ← rgM_set x hrf.hd]
            exact kd.put _ _
          · have eu : upX (lE n rs) n x r = x := by
              unfold upX
              rw [if_neg hw, if_neg (by rw [hok]; decide)]
            rw [eu] at next
            exact ⟨B12, e11.trans e12, ⟨_, _, rfl⟩, e1011.trans e12, kvs, N, x, w14, kd, by omega, next⟩
        · have eu : upX (lE n rs) n x r = x := by
            unfold upX
            rw [if_pos (by simpa using hb)]
          rw [eu] at next
          exact ⟨B12, e11.trans e12, ⟨_, _, rfl⟩, e1011.trans e12, kvs, N, x, w12, kd, by omega, next⟩
      · obtain ⟨⟨o4, o12, rfl⟩, e1011, kvs, N, x, w11, kd, hN, lj⟩ := hj
        exact ⟨B11, e10.trans e1011, ⟨_, _, _, rfl⟩, e910.trans e1011, kvs, N, x, w11, kd, by omega, lj.done⟩
    obtain ⟨⟨o4, o11, o12, rfl⟩, e910, kvs, N, x, w10, kd, hN, li⟩ := hj
    rw [show ((n : Int) + 1).toNat = n + 1 by omega] at li
    obtain ⟨w11, e11⟩ := w10.drop
    have dic : DicI (rgM x n) (.ref na) (upd B10 na (.dK kvs)) := ⟨na, kvs, N, rfl, upd_same, kd⟩
    refine ws_ret w11 (ev_cb (eds_cons (ed_is (ed_lcR (K := K) (n := (n : Nat)) (fun _ => true) (fun i : Nat => .int (x (i : Nat))) (eds_cons (ed_var (i := 1) rfl (.int (n : Nat))) eds_nil) ⟨by omega, by omega⟩ (fun _ => rfl) (fun i B6 hi e6 => et_yes) (fun i B6 hi _ e6 => ev_iget (m := rgM x n) (Dx.ev_var (P := DicI (rgM x n)) (i := 10) rfl upc_dicI (upc_dicI _ _ _ e6 dic)) (ed_var (i := 7) rfl (.int (i : Int))) (rgM_at x ⟨by omega, by omega⟩))) (by rw [List.filter_eq_self.mpr (fun _ _ => rfl)]; rfl)) eds_nil) rc_tupL) fun v9 B12 H12 w12 e12 g9 => q _ B12 H12 x w12.st (li.lens g tp hO) g9

end
end K33

namespace K33
open PySem PySem.Spec PyProof.Rows L2 Evl Ex Dx StX
open PySem.PyData (strOk)
section
variable {P : Program} {w : World} {K : PySem.W.Frag} {mg : Str → Option Value} {base : Heap} {f : Addr} {fd : FuncData}


/-! ### steps of loops -/
def rlA (rs : List PyData) (a : Int) : PyData := rs.getD a.toNat .none
def ptA (rs : List PyData) (a b : Int) : Int := (prtL (rlA rs a)).getD b.toNat 0
def stpB (rs : List PyData) (L : List Int) (d : PyData) : Bool := match d with
  | .tuple [x, y] => inB x 0 ((rs.length : Nat) - 1) && (inB y 0 (((prtL (rlA rs (numI x))).length : Nat) - 1) && livB L (rlA rs (numI x)))
  | _ => false
def StI (rs : List PyData) (a b : Int) : Prop := (0 ≤ a ∧ a < (rs.length : Nat)) ∧ 0 ≤ b ∧ b < ((prtL (rlA rs a)).length : Nat)
theorem stp_is {rs : List PyData} {L : List Int} {d : PyData} (h : stpB rs L d = true) : ∃ a b : Int, d = .tuple [.int a, .int b] ∧ StI rs a b ∧ livB L (rlA rs a) = true := by
  unfold stpB at h
  split at h
  · rw [Bool.and_eq_true, Bool.and_eq_true] at h
    obtain ⟨hx, hy, hl⟩ := h
    obtain ⟨a, rfl, a0, a1⟩ := inB_is hx
    obtain ⟨b, rfl, b0, b1⟩ := inB_is hy
    have hb : b ≤ (((prtL (rlA rs a)).length : Nat) : Int) - 1 := b1
    exact ⟨a, b, rfl, ⟨⟨a0, by omega⟩, b0, by omega⟩, hl⟩
  · cases h
theorem rlA_at {rs : List PyData} {a : Int} (h : 0 ≤ a ∧ a < (rs.length : Nat)) : atI rs a = some (rlA rs a) ∧ rlA rs a ∈ rs := by
  have hl : a.toNat < rs.length := by omega
  have e : rs[a.toNat]? = some (rlA rs a) := by
    unfold rlA
    rw [List.getD_eq_getElem?_getD, List.getElem?_eq_getElem hl]
    rfl
  refine ⟨?_, List.mem_of_getElem? e⟩
  have := atI_nat (xs := rs) (j := a.toNat) e
  rw [show ((a.toNat : Nat) : Int) = a by omega] at this
  exact this
theorem ptA_at {rs : List PyData} {a b : Int} (h : 0 ≤ b ∧ b < ((prtL (rlA rs a)).length : Nat)) : atI ((prtL (rlA rs a)).map PyData.int) b = some (.int (ptA rs a b)) ∧ ptA rs a b ∈ prtL (rlA rs a) := by
  have hl : b.toNat < (prtL (rlA rs a)).length := by omega
  have e : (prtL (rlA rs a))[b.toNat]? = some (ptA rs a b) := by
    unfold ptA
    rw [List.getD_eq_getElem?_getD, List.getElem?_eq_getElem hl]
    rfl
  refine ⟨?_, List.mem_of_getElem? e⟩
  have := atI_nat (xs := (prtL (rlA rs a)).map PyData.int) (j := b.toNat) (by rw [List.getElem?_map, e]; rfl)
  rw [show ((b.toNat : Nat) : Int) = b by omega] at this
  exact this
variable {c0 c1 c2 CP : Addr}
def spPB (K : PySem.W.Frag) (CP : Addr) : Sp := fun vs H Q _ => ∃ (B : Hp) (vp v : V) (n : Nat) (rs : List PyData) (a b : Int), vs = [vp, v] ∧ Ex B H ∧ InsP K CP (.int (n : Nat)) (.tuple rs) vp B ∧ Gs n rs ∧ Dd K B v (.tuple [.int a, .int b]) ∧ StI rs a b ∧ ∀ B' H', Step (fun _ => False) B H B' H' → Q (.int (ptA rs a b)) H'

abbrev s_part_behind : Stmt := topS 41
abbrev N_part_behind : List Str := ["pairs", "step", "number", "side"]
theorem sc_part_behind : FnScope N_part_behind ["pairs", "step"] (defScope s_part_behind) := ⟨rfl, rfl, rfl, by decide +kernel, rfl, by decide +kernel, by decide +kernel⟩
theorem ok_part_behind (F : Fun K "part_behind" "part_behind" s_part_behind f fd) (T : TP P w K mg base c0 c1 c2 CP) (C_part_kinds : Callee P w K mg base "part_kinds" 1 ["rule"] (spF K preRF fPts)) : FnOk P w K mg base CX0 2 f fd ["pairs", "step"] (spPB K CP) := by
  refine F.ok sc_part_behind (fun vs H Q E h => ?_) (fun cdv A outer s H vs Q E hr h => ?_)
  · obtain ⟨B, vp, v, n, rs, a, b, rfl, _⟩ := h
    rfl
  · obtain ⟨B, vp, v, n, rs, x, y, rfl, e, hp, g, hv, si, q⟩ := h
    refine ⟨_, (pss_cons (ps_asg (pv 1) (pg_tup (by rfl) (pgs_cons (pg_name (i := 2) sc_part_behind.nd rfl (Or.inl rfl)) (pgs_cons (pg_name (i := 3) sc_part_behind.nd rfl (Or.inl rfl)) pgs_nil))))
      (pss_one (ps_ret (pe_ix (ix_seqK K) (pe_callC C_part_kinds (hr.mono (by decide)) rfl pass0 (pa_cons (pe_ix (ix_seqK K) (pe_fldK K (pv 0)) (pv 2) (fun _ _ => rfl)) pa_nil)) (pv 3) (fun _ _ => rfl))))), ?_⟩
    have a : At Fm.pure B H B H := At.start (Ok.any e)
    refine qv_unpP a (ed_var (i := 1) rfl hv) fun v1 v2 B1 H1 e1 a1 h1 h2 => ?_
    obtain rfl := dd_int h1
    obtain rfl := dd_int h2
    obtain ⟨r1, r2⟩ := rlA_at si.1
    refine sv_ret (P := DD K (.int (ptA rs x y))) a1 (ed_op (ed_F (eds_cons (ed_op (ev_rules T (i := 0) rfl (upc_ins _ _ _ e1 hp)) (ed_var (i := 2) rfl (.int x)) (rd_ixT r1)) eds_nil) ⟨rlA rs x, n, rfl, g.rf _ r2⟩ rfl) (ed_var (i := 3) rfl (.int y)) (rd_ixT (ptA_at si.2).1)) fun v3 B3 H3 e3 a3 h3 => ?_
    obtain rfl := dd_int h3
    exact q B3 H3 a3.st

theorem ed_PB {F : Fm} {σ : L2.St} {B : Hp} {i : Nat} {te : TE} {vp : V} {n : Nat} {rs : List PyData} {a b : Int} (hi : σ[i]? = some (some vp)) (hp : InsP K CP (.int (n : Nat)) (.tuple rs) vp B) (g : Gs n rs) (h : ED F K te σ B (.tuple [.int a, .int b])) (si : StI rs a b) : ED F K (tCall (spPB K CP) [] E0 (tCons (tVar i) (tCons te tNil))) σ B (.int (ptA rs a b)) := fun B1 e1 H1 j1 Q1 q1 =>
  ⟨vp, hi, h B1 e1 H1 j1 _ fun v B2 H2 s2 j2 gv => ⟨B2, vp, v, n, rs, a, b, rfl, j2.e, upc_ins _ _ _ (e1.trans s2.bb) hp, g, gv, si, fun B' H' s => q1 _ B' H' (s2.trans s.pure) (j2.pure s) (.int _)⟩⟩
def spIS (K : PySem.W.Frag) (CP : Addr) : Sp := fun vs H Q _ => ∃ (B : Hp) (vp vl v : V) (n : Nat) (rs : List PyData) (L : List Int) (d : PyData), vs = [vp, vl, v] ∧ Ex B H ∧ InsP K CP (.int (n : Nat)) (.tuple rs) vp B ∧ Gs n rs ∧ Dd K B vl (.list (L.map .int)) ∧ L.length ≤ 100 ∧ Dd K B v d ∧ ∀ B' H', Step (fun _ => False) B H B' H' → Q (.bl (stpB rs L d)) H'
theorem twoT (d : PyData) : (∃ x y, d = .tuple [x, y]) ∨ (isTupD d = false ∧ ∀ rs L, stpB rs L d = false) ∨ ∃ ds, d = .tuple ds ∧ ds.length ≠ 2 ∧ ∀ rs L, stpB rs L d = false := by
  cases d with
  | tuple ds =>
    match ds with
    | [] => exact .inr (.inr ⟨_, rfl, by decide, fun _ _ => rfl⟩)
    | [x] => exact .inr (.inr ⟨_, rfl, by show ¬ (1 = 2); decide, fun _ _ => rfl⟩)
    | [x, y] => exact .inl ⟨x, y, rfl⟩
    | x :: y :: z :: l => exact .inr (.inr ⟨_, rfl, by show ¬ (l.length + 1 + 1 + 1 = 2); omega, fun _ _ => rfl⟩)
  | _ => exact .inr (.inl ⟨rfl, fun _ _ => rfl⟩)

abbrev s_is_step : Stmt := topS 43
abbrev N_is_step : List Str := ["pairs", "live", "value", "rule"]
theorem sc_is_step : FnScope N_is_step ["pairs", "live", "value"] (defScope s_is_step) := ⟨rfl, rfl, rfl, by decide +kernel, rfl, by decide +kernel, by decide +kernel⟩
theorem ok_is_step (F : Fun K "is_step" "is_step" s_is_step f fd) (T : TP P w K mg base c0 c1 c2 CP) (C_is_between : Callee P w K mg base "is_between" 2 ["value", "low", "high"] (spBetween K)) (C_part_kinds : Callee P w K mg base "part_kinds" 1 ["rule"] (spF K preRF fPts)) (C_is_live : Callee P w K mg base "is_live" 2 ["rule", "live"] (spF K preLive fLive)) : FnOk P w K mg base CX0 3 f fd ["pairs", "live", "value"] (spIS K CP) := by
  refine F.ok sc_is_step (fun vs H Q E h => ?_) (fun cdv A outer s H vs Q E hr h => ?_)
  · obtain ⟨B, vp, vl, v, n, rs, L, d, rfl, _⟩ := h
    rfl
  · obtain ⟨B, vp, vl, v, n, rs, L, d, rfl, e, hp, g, hl, hL, hv, q⟩ := h
    have hu64 : (A.deeper (envOfC "is_step" (defScope s_is_step) s.heap.objs.size f cdv)).units + 64 < cLine := hr.units
    refine ⟨_, (pss_cons (ps_if (PW.pt (pw_or (pt_not (pt_val (pe_callB (call_isiK1 K) (by rfl) T.m_isinstance bt_isinstance (pa_cons (pv 2) (pa_cons (pe_bltn (v := .ty "tuple") (by rfl) T.m_tuple bt_tuple rfl) pa_nil))))) (pw_or (pt_cmpR (op_neDK K hu64) (pe_callB (call_lenK K) (by rfl) T.m_len bt_len (pa_cons (pv 2) pa_nil)) pe_int (nomark _)) (pw_or1 (pt_not (pt_val (pe_callC C_is_between (hr.mono (by decide)) rfl pass0 (pa_cons (pe_ix (ix_seqK K) (pv 2) pe_int (fun _ _ => rfl)) (pa_cons pe_int (pa_cons (pe_op op_sub (pe_callB (call_lenK K) (by rfl) T.m_len bt_len (pa_cons (pe_fldK K (pv 0)) pa_nil)) pe_int) pa_nil)))))))))) (pss_one (ps_ret pe_bl)) pss_nil)
      (pss_cons (ps_set (i := 3) sc_is_step.nd rfl (Or.inl rfl) (pe_ix (ix_seqK K) (pe_fldK K (pv 0)) (pe_ix (ix_seqK K) (pv 2) pe_int (fun _ _ => rfl)) (fun _ _ => rfl)))
      (pss_one (ps_ret (pe_and (pe_callC C_is_between (hr.mono (by decide)) rfl pass0 (pa_cons (pe_ix (ix_seqK K) (pv 2) pe_int (fun _ _ => rfl)) (pa_cons pe_int (pa_cons (pe_op op_sub (pe_callB (call_lenK K) (by rfl) T.m_len bt_len (pa_cons (pe_callC C_part_kinds (hr.mono (by decide)) rfl pass0 (pa_cons (pv 3) pa_nil)) pa_nil)) pe_int) pa_nil)))) (pe_one (pe_callC C_is_live (hr.mono (by decide)) rfl pass0 (pa_cons (pv 3) (pa_cons (pv 1) pa_nil))))))))), ?_⟩
    have a : At Fm.pure B H B H := At.start (Ok.any e)
    have fin : ∀ b B1 H1, At Fm.pure B H B1 H1 → b = stpB rs L d → Q (.bl b) H1 := fun b B1 H1 a1 eb => by
      rw [eb]
      exact q B1 H1 a1.st
    have lenR : ED Fm.pure K (tOp (rI0 fun i j => .int (i - j)) (tCB (fun xs H Q => ∃ x n, xs = [x] ∧ LenV K x H n ∧ Q (.int (n : Nat)) H) (tCons (tFld K (tVar 0) "rules") tNil)) (tC (.int 1))) [some vp, some vl, some v, none] B (.int ((rs.length : Nat) - 1)) := ed_op (ed_is (ev_cb (eds_cons (ev_rules T (i := 0) rfl hp) eds_nil) (rc_len rfl)) rfl) ed_int rd_sub
    rcases twoT d with ⟨x, y, rfl⟩ | ⟨h1, h2⟩ | ⟨xs, rfl, h1, h2⟩
    · refine qv_when (b := !inB x 0 ((rs.length : Nat) - 1)) a (et_is (et_or (b := false) (et_not (et_val (ed_isi (ed_var (i := 2) rfl hv) (kit_tup _)))) fun _ => et_or (b := false) (et_is (et_cmp (ed_op (ev_cb (eds_cons (ed_var (i := 2) rfl hv) eds_nil) (rc_len rfl)) ed_int (rd_neD rfl rfl))) (by rw [eqv_int]; rfl)) fun _ => et_not (et_val (ed_F (eds_cons (ed_op (ed_var (i := 2) rfl hv) ed_int (rd_ixT at2_0)) (eds_cons ed_int (eds_cons lenR eds_nil))) ⟨_, _, _, rfl⟩ rfl))) (by rfl)) (fun hb B1 H1 e1 a1 => ?_) (fun hb B1 H1 e1 a1 => ?_)
      · refine sv_ret (P := DD K (.bool false)) a1 ed_bl fun v1 B2 H2 e2 a2 h2 => ?_
        obtain rfl := dd_bl h2
        refine fin _ B2 H2 a2 ?_
        rw [Bool.not_eq_true'] at hb
        show false = (inB x 0 ((rs.length : Nat) - 1) && _)
        rw [hb]
        rfl
      · have hx : inB x 0 ((rs.length : Nat) - 1) = true := by simpa using hb
        obtain ⟨i, rfl, i0, i1⟩ := inB_is hx
        obtain ⟨r1, r2⟩ := rlA_at (rs := rs) (a := i) ⟨i0, by omega⟩
        have hrf := g.rf _ r2
        refine qv_asg (P := DD K (rlA rs i)) a1 (ed_op (ev_rules T (i := 0) rfl (upc_ins _ _ _ e1 hp)) (ed_op (ed_var (i := 2) rfl (hv.up e1)) ed_int (rd_ixT at2_0)) (rd_ixT r1)) fun vr B2 H2 e2 a2 hr2 => ?_
        have e12 := e1.trans e2
        refine sv_ret (P := DD K (.bool (inB y 0 (((prtL (rlA rs i)).length : Nat) - 1) && livB L (rlA rs i)))) a2 (ed_andV (ed_F (eds_cons (ed_op (ed_var (i := 2) rfl (hv.up e12)) ed_int (rd_ixT at2_1)) (eds_cons ed_int (eds_cons (ed_op (ed_is (ev_cb (eds_cons (ed_F (eds_cons (ed_var (i := 3) rfl hr2) eds_nil) ⟨rlA rs i, n, rfl, hrf⟩ rfl) eds_nil) (rc_len rfl)) (by show PyData.int ((((prtL (rlA rs i)).map PyData.int).length : Nat) : Int) = .int (((prtL (rlA rs i)).length : Nat) : Int); rw [List.length_map])) ed_int rd_sub) eds_nil))) ⟨_, _, _, rfl⟩ rfl) fun _ => ed_F (eds_cons (ed_var (i := 3) rfl hr2) (eds_cons (ed_var (i := 1) rfl (hl.up e12)) eds_nil)) ⟨rlA rs i, n, L, rfl, hrf, hL⟩ (by show PyData.bool (livB ((L.map PyData.int).map numI) (rlA rs i)) = _; rw [numI_map])) fun v3 B3 H3 e3 a3 h3 => ?_
        obtain rfl := dd_bl h3
        refine fin _ B3 H3 a3 ?_
        show _ = (inB (.int i) 0 ((rs.length : Nat) - 1) && (inB y 0 (((prtL (rlA rs (numI (.int i)))).length : Nat) - 1) && livB L (rlA rs (numI (.int i)))))
        rw [hx]
        rfl
    · refine qv_when (b := true) a (et_is (et_or (b := true) (c := true) (et_is (et_not (et_val (ed_isi (ed_var (i := 2) rfl hv) (kit_tup _)))) (by rw [h1]; rfl)) fun h => nomatch h) rfl) (fun _ B1 H1 e1 a1 => ?_) (fun h => nomatch h)
      refine sv_ret (P := DD K (.bool false)) a1 ed_bl fun v1 B2 H2 e2 a2 h3 => ?_
      obtain rfl := dd_bl h3
      exact fin _ B2 H2 a2 (h2 rs L).symm
    · refine qv_when (b := true) a (et_is (et_or (b := false) (c := true) (et_not (et_val (ed_isi (ed_var (i := 2) rfl hv) (kit_tup _)))) fun _ => et_is (et_or (b := true) (c := true) (et_is (et_cmp (ed_op (ev_cb (eds_cons (ed_var (i := 2) rfl hv) eds_nil) (rc_len rfl)) ed_int (rd_neD rfl rfl))) (by
        rw [eqv_int]
        show (!((((xs.length : Nat) : Int)) == 2)) = true
        rw [Bool.not_eq_true', beq_eq_false_iff_ne]
        omega)) fun h => nomatch h) rfl) rfl) (fun _ B1 H1 e1 a1 => ?_) (fun h => nomatch h)
      refine sv_ret (P := DD K (.bool false)) a1 ed_bl fun v1 B2 H2 e2 a2 h3 => ?_
      obtain rfl := dd_bl h3
      exact fin _ B2 H2 a2 (h2 rs L).symm

end
end K33

namespace K33
open PySem PySem.Spec PyProof.Rows L2 Evl Ex Dx StX
open PySem.PyData (strOk)
section
variable {P : Program} {w : World} {K : PySem.W.Frag} {mg : Str → Option Value} {base : Heap} {f : Addr} {fd : FuncData}


theorem pg_tupK {X : Cx} (K : PySem.W.Frag) {es : List Expr} {k : Nat} {t : TGs} {n : Nat} {pos : Pos} (hc : X.calm = true) (h : PGs X es t) (hn : (assignEach es X.env).length = n := by rfl) (hst : (assignEach es X.env).findIdx? (·.1) = none := by rfl) (hK : X.K = K := by rfl) : PG X (.Tuple es k pos) (gTup K n t) := by subst hK; exact pg_tup hc h hn hst
/-! ### loop_holds -/
def fstI (d : PyData) : Int := match d with
  | .tuple (.int a :: _) => a
  | _ => 0
def sndI (d : PyData) : Int := match d with
  | .tuple [_, .int b] => b
  | _ => 0
def hk (rs : List PyData) (d : PyData) : Int := hdI (rlA rs (fstI d))
def pk (rs : List PyData) (d : PyData) : Int := ptA rs (fstI d) (sndI d)
def prevI (n i : Nat) : Nat := if i = 0 then n - 1 else i - 1
theorem prev_lt {n i : Nat} (h : i < n) : prevI n i < n := by
  unfold prevI
  split <;> omega
theorem atI_prev {α : Type} {xs : List α} {i : Nat} {d : α} (hi : i < xs.length) (h : xs[prevI xs.length i]? = some d) : atI xs ((i : Int) - 1) = some d := by
  unfold prevI at h
  by_cases e : i = 0
  · rw [if_pos e] at h
    subst e
    unfold atI ixN
    rw [if_neg (by decide), if_pos (by omega)]
    show xs[(((xs.length : Nat) : Int) + (((0 : Nat) : Int) - 1)).toNat]? = some d
    rw [show (((xs.length : Nat) : Int) + (((0 : Nat) : Int) - 1)).toNat = xs.length - 1 by omega]
    exact h
  · rw [if_neg e] at h
    rw [show (i : Int) - 1 = ((i - 1 : Nat) : Int) by omega]
    exact atI_nat h
def chB (rs : List PyData) (xs : List PyData) : Bool := (List.range xs.length).all fun i => pk rs (xs.getD (prevI xs.length i) .none) == hk rs (xs.getD i .none)
def usB (n : Nat) (rs : List PyData) (k : Int) : Bool := k == 0 || rchB (lE n rs) n 0 k
def loopB (n : Nat) (rs : List PyData) (d : PyData) : Bool := match d with
  | .tuple xs => (decide ((1 : Int) ≤ (xs.length : Nat)) && decide (((xs.length : Nat) : Int) ≤ 90)) && (xs.all (stpB rs (liveL rs n)) && (usB n rs (hk rs (xs.getD 0 .none)) && chB rs xs))
  | _ => false
variable {c0 c1 c2 CP : Addr}
theorem ed_KU {F : Fm} {σ : L2.St} {B : Hp} {te tj : TE} {n : Nat} {j : Int} {E : List (Int × Int)} (h : ED F K te σ B (adjD E n)) (hj : ED F K tj σ B (.int j)) (g : Eg n E) : ED F K (tOp (rIn K true) tj (tCall (spKU K) [] E0 (tCons te tNil))) σ B (.bool (!(j == 0 || rchB E n 0 j))) := by
  have ku : EV F (tCall (spKU K) [] E0 (tCons te tNil)) σ B (fun v B => ∃ S, KBs E 0 S ∧ Dd K B v (.list ((0 :: S).map .int))) := fun B1 e1 H1 j1 Q1 q1 => h B1 e1 H1 j1 _ fun v B2 H2 s2 j2 gv => ⟨B2, v, n, E, rfl, j2.e, gv, g, fun v' B' H' S s hS gd => q1 v' B' H' (s2.trans s.pure) (j2.pure s) ⟨S, hS, gd⟩⟩
  exact ev_op (P := DD K (.int j)) hj ku upc_dd fun B3 e3 H3 u v j3 hu ⟨S, hS, hd⟩ Q3 q3 => rd_notin (F := F) (K := K) (B := B3) (x := .int j) (y := .list ((0 :: S).map .int)) (.inl rfl) rfl (flatI _) B3 (Ex.refl B3) H3 u v j3 hu hd Q3 fun w B' H' s jj gw => q3 w B' H' s jj (by
    rw [inD_int, show (0 :: S).contains j = (j == 0 || S.contains j) from rfl, kb_has g hS] at gw
    exact gw)
def spLH (K : PySem.W.Frag) (CP : Addr) : Sp := fun vs H Q _ => ∃ (B : Hp) (vp v : V) (n : Nat) (rs : List PyData) (d : PyData), vs = [vp, v] ∧ Ex B H ∧ InsP K CP (.int (n : Nat)) (.tuple rs) vp B ∧ Gs n rs ∧ Dd K B v d ∧ ∀ B' H', Step (fun _ => False) B H B' H' → Q (.bl (loopB n rs d)) H'
theorem ed_ISt {F : Fm} {σ : L2.St} {B : Hp} {i j l : Nat} {vp vl v : V} {n : Nat} {rs : List PyData} {L : List Int} {d : PyData} (hi : σ[i]? = some (some vp)) (hj : σ[j]? = some (some vl)) (hl : σ[l]? = some (some v)) (hp : InsP K CP (.int (n : Nat)) (.tuple rs) vp B) (g : Gs n rs) (hL : Dd K B vl (.list (L.map .int))) (hL2 : L.length ≤ 100) (hv : Dd K B v d) : ED F K (tCall (spIS K CP) [] E0 (tCons (tVar i) (tCons (tVar j) (tCons (tVar l) tNil)))) σ B (.bool (stpB rs L d)) := fun B1 e1 H1 j1 Q1 q1 =>
  ⟨vp, hi, vl, hj, v, hl, B1, vp, vl, v, n, rs, L, d, rfl, j1.e, upc_ins _ _ _ e1 hp, g, hL.up e1, hL2, hv.up e1, fun B' H' s => q1 _ B' H' s.pure (j1.pure s) (.bl _)⟩

abbrev s_loop_holds : Stmt := topS 42
abbrev N_loop_holds : List Str := ["pairs", "value", "live", "kinds", "number", "_", "at", "step"]
theorem sc_loop_holds : FnScope N_loop_holds ["pairs", "value"] (defScope s_loop_holds) := ⟨rfl, rfl, rfl, by decide +kernel, rfl, by decide +kernel, by decide +kernel⟩
theorem ok_loop_holds (F : Fun K "loop_holds" "loop_holds" s_loop_holds f fd) (T : TP P w K mg base c0 c1 c2 CP) (C_live_kinds : Callee P w K mg base "live_kinds" 3 ["pairs"] (spIns K CP fLvK)) (C_is_step : Callee P w K mg base "is_step" 3 ["pairs", "live", "value"] (spIS K CP)) (C_kinds_in_use : Callee P w K mg base "kinds_in_use" 2 ["steps"] (spKU K)) (C_live_steps : Callee P w K mg base "live_steps" 4 ["pairs", "live"] (spLS K CP)) (C_part_behind : Callee P w K mg base "part_behind" 2 ["pairs", "step"] (spPB K CP)) : FnOk P w K mg base CX0 5 f fd ["pairs", "value"] (spLH K CP) := by
  refine F.ok sc_loop_holds (fun vs H Q E h => ?_) (fun cdv A outer s H vs Q E hr h => ?_)
  · obtain ⟨B, vp, v, n, rs, d, rfl, _⟩ := h
    rfl
  · obtain ⟨B, vp, v, n, rs, d, rfl, e, hp, g, hv, q⟩ := h
    have hu64 : (A.deeper (envOfC "loop_holds" (defScope s_loop_holds) s.heap.objs.size f cdv)).units + 64 < cLine := hr.units
    refine ⟨_, (pss_cons (ps_if (PW.pt (pw_or (pt_not (pt_val (pe_callB (call_isiK1 K) (by rfl) T.m_isinstance bt_isinstance (pa_cons (pv 1) (pa_cons (pe_bltn (v := .ty "tuple") (by rfl) T.m_tuple bt_tuple rfl) pa_nil))))) (pw_or1 (pt_not (pt_chain op_le op_le pe_int (pe_callB (call_lenK K) (by rfl) T.m_len bt_len (pa_cons (pv 1) pa_nil)) (pe_gint rfl T.c_MOST_STEPS)))))) (pss_one (ps_ret pe_bl)) pss_nil)
      (pss_cons (ps_set (i := 2) sc_loop_holds.nd rfl (Or.inr rfl) (pe_callC C_live_kinds (hr.mono (by decide)) rfl pass0 (pa_cons (pv 0) pa_nil)))
      (pss_cons (ps_if (pt_not (pt_val (pe_callB (cr_allK K) (by rfl) T.m_all bt_all (pa_cons (pe_lc (own := [("step", 7)]) rfl sc_loop_holds.nd (pi_seqK K (pv 1)) (blkOk_by (own := [("step", 7)]) (N := N_loop_holds) (sc := defScope s_loop_holds) (by decide +kernel)) (fun _ _ _ _ _ => pg_name (i := 7) sc_loop_holds.nd rfl (Or.inl rfl)) (fun _ _ _ _ _ => pts_nil) (fun _ _ _ _ _ => (pe_callC C_is_step (hr.mono (by decide)) rfl pass0 (pa_cons (pv 0) (pa_cons (pv 2) (pa_cons (pv 7) pa_nil)))))) pa_nil)))) (pss_one (ps_ret pe_bl)) pss_nil)
      (pss_cons (ps_set (i := 3) sc_loop_holds.nd rfl (Or.inr rfl) (pe_lc (own := [("number", 4), ("_", 5)]) rfl sc_loop_holds.nd (pi_seqK K (pv 1)) (blkOk_by (own := [("number", 4), ("_", 5)]) (N := N_loop_holds) (sc := defScope s_loop_holds) (by decide +kernel)) (fun _ _ _ _ _ => (pg_tupK K (n := 2) rfl (pgs_cons (pg_name (i := 4) sc_loop_holds.nd rfl (Or.inl rfl)) (pgs_cons (pg_name (i := 5) sc_loop_holds.nd rfl (Or.inl rfl)) pgs_nil)))) (fun _ _ _ _ _ => pts_nil) (fun _ _ _ _ _ => (pe_ix (ix_seqK K) (pe_ix (ix_seqK K) (pe_fldK K (pv 0)) (pv 4) (fun _ _ => rfl)) pe_int (fun _ _ => rfl)))))
      (pss_cons (ps_if (pt_cmpR (op_ninK K) (pe_ix (ix_seqK K) (pv 3) pe_int (fun _ _ => rfl)) (pe_callC C_kinds_in_use (hr.mono (by decide)) rfl pass0 (pa_cons (pe_callC C_live_steps (hr.mono (by decide)) rfl pass0 (pa_cons (pv 0) (pa_cons (pv 2) pa_nil))) pa_nil)) (by rfl)) (pss_one (ps_ret pe_bl)) pss_nil)
      (pss_one (ps_ret (pe_callB (cr_allK K) (by rfl) T.m_all bt_all (pa_cons (pe_lc (own := [("at", 6)]) rfl sc_loop_holds.nd (pi_range1 rfl T.m_range (pa_cons (pe_callB (call_lenK K) (by rfl) T.m_len bt_len (pa_cons (pv 1) pa_nil)) pa_nil)) (blkOk_by (own := [("at", 6)]) (N := N_loop_holds) (sc := defScope s_loop_holds) (by decide +kernel)) (fun _ _ _ _ _ => pg_name (i := 6) sc_loop_holds.nd rfl (Or.inl rfl)) (fun _ _ _ _ _ => pts_nil) (fun _ _ _ _ _ => (pe_cmpR (op_eqDK K hu64) (pe_callC C_part_behind (hr.mono (by decide)) rfl pass0 (pa_cons (pv 0) (pa_cons (pe_ix (ix_seqK K) (pv 1) (pe_op op_sub (pv 6) pe_int) (fun _ _ => rfl)) pa_nil))) (pe_ix (ix_seqK K) (pv 3) (pv 6) (fun _ _ => rfl)) (nomark _)))) pa_nil))))))))), ?_⟩
    have a : At Fm.pure B H B H := At.start (Ok.any e)
    have eg := g.eg (liveL rs n)
    have hLl := live_len g
    have fin : ∀ b B1 H1, At Fm.pure B H B1 H1 → b = loopB n rs d → Q (.bl b) H1 := fun b B1 H1 a1 eb => by
      rw [eb]
      exact q B1 H1 a1.st
    by_cases hs : isTupD d = true
    · obtain ⟨xs, rfl⟩ := tup_is hs
      have hz : xs.length ≤ 16777216 := by
        obtain ⟨p, us, _, _, l1, g1⟩ := dd_tup hv
        rw [g1.len, sizeLine_eq] at l1
        exact l1
      refine qv_when (b := !(decide ((1 : Int) ≤ (xs.length : Nat)) && decide (((xs.length : Nat) : Int) ≤ 90))) a (et_is (et_or (b := false) (et_not (et_val (ed_isi (ed_var (i := 1) rfl hv) (kit_tup _)))) fun _ => et_not (et_cmp (ed_chain (ed_int) (ev_cb (eds_cons (ed_var (i := 1) rfl hv) eds_nil) (rc_len rfl)) rd_le fun _ => ⟨_, ed_int, rd_le⟩))) (by rfl)) (fun hb B1 H1 e1 a1 => ?_) (fun hb B1 H1 e1 a1 => ?_)
      · refine sv_ret (P := DD K (.bool false)) a1 ed_bl fun v1 B2 H2 e2 a2 h2 => ?_
        obtain rfl := dd_bl h2
        refine fin _ B2 H2 a2 ?_
        rw [Bool.not_eq_true'] at hb
        show false = ((decide ((1 : Int) ≤ (xs.length : Nat)) && decide (((xs.length : Nat) : Int) ≤ 90)) && _)
        rw [hb]
        rfl
      have hlen : (decide ((1 : Int) ≤ (xs.length : Nat)) && decide (((xs.length : Nat) : Int) ≤ 90)) = true := by simpa using hb
      have hlen2 : 1 ≤ xs.length ∧ xs.length ≤ 90 := by
        rw [Bool.and_eq_true, decide_eq_true_eq, decide_eq_true_eq] at hlen
        omega
      have lpE : loopB n rs (.tuple xs) = (xs.all (stpB rs (liveL rs n)) && (usB n rs (hk rs (xs.getD 0 .none)) && chB rs xs)) := by
        show ((decide ((1 : Int) ≤ (xs.length : Nat)) && decide (((xs.length : Nat) : Int) ≤ 90)) && _) = _
        rw [hlen]
        rfl
      have hp := upc_ins _ _ _ e1 hp
      have hv := hv.up e1
      refine qv_asg (P := DD K (.list ((liveL rs n).map .int))) a1 (ed_Ins (fn := fLvK) (i := 0) rfl hp g) fun vl B2 H2 e2 a2 hl => ?_
      have hp := upc_ins _ _ _ e2 hp
      have hv := hv.up e2
      refine qv_when (b := !xs.all (stpB rs (liveL rs n))) a2 (et_is (et_not (et_val (ev_cb (eds_cons (ed_lcD (K := K) (ds := xs) (fun _ => true) (fun d => .bool (stpB rs (liveL rs n) d)) (ev_seqT (ed_var (i := 1) rfl hv)) hz (fun _ => rfl) (fun d u B3 hm e3 hu => et_yes) (fun d u B3 hm _ e3 hu => ed_ISt (i := 0) (j := 2) (l := 7) rfl rfl rfl (upc_ins _ _ _ e3 hp) g (hl.up e3) (by omega) hu)) eds_nil) (rc_all' (bs := xs.map (stpB rs (liveL rs n))) (by rw [List.filter_eq_self.mpr (fun _ _ => rfl), List.map_map]; rfl))))) (by rw [List.all_map]; rfl)) (fun hb2 B3 H3 e3 a3 => ?_) (fun hb2 B3 H3 e3 a3 => ?_)
      · refine sv_ret (P := DD K (.bool false)) a3 ed_bl fun v1 B4 H4 e4 a4 h2 => ?_
        obtain rfl := dd_bl h2
        refine fin _ B4 H4 a4 ?_
        rw [lpE]
        rw [Bool.not_eq_true'] at hb2
        rw [hb2]
        rfl
      have hall : xs.all (stpB rs (liveL rs n)) = true := by simpa using hb2
      have each : ∀ d ∈ xs, ∃ x y : Int, d = .tuple [.int x, .int y] ∧ StI rs x y ∧ livB (liveL rs n) (rlA rs x) = true := fun d hd => stp_is (List.all_eq_true.mp hall d hd)
      have hp := upc_ins _ _ _ e3 hp
      have hv := hv.up e3
      have hl := hl.up e3
      refine qv_asg (P := DD K (.list (xs.map fun d => .int (hk rs d)))) a3 (ed_is (ed_lcP (K := K) (ds := xs) (fun _ => true) (fun d => .int (hk rs d)) (ev_seqT (ed_var (i := 1) rfl hv)) hz (fun d hd => by
        obtain ⟨x, y, rfl, _⟩ := each d hd
        exact ⟨_, _, rfl⟩) (fun _ _ => rfl) (fun x y u v B4 hm e4 hu hv2 => et_yes) (fun x y u v B4 hm _ e4 hu hv2 => ?_)) (by rw [List.filter_eq_self.mpr (fun _ _ => rfl)])) fun vk B4 H4 e4 a4 hkd => ?_
      · obtain ⟨x', y', ed, si, _⟩ := each _ hm
        cases ed
        obtain rfl := dd_int hu
        obtain ⟨r1, r2⟩ := rlA_at si.1
        obtain ⟨a0, how, p, ps, er, _⟩ := g.rf _ r2
        refine ed_is (ed_op (ed_is (ed_op (ev_rules T (i := 0) rfl (upc_ins _ _ _ e4 hp)) (ed_var (i := 4) rfl (.int x')) (rd_ixT r1)) er) ed_int (rd_ixT at3_0)) ?_
        show PyData.int a0 = .int (hdI (rlA rs (fstI (.tuple [.int x', .int y']))))
        show PyData.int a0 = .int (hdI (rlA rs x'))
        rw [er]
        rfl
      have hp := upc_ins _ _ _ e4 hp
      have hv := hv.up e4
      have hl := hl.up e4
      have nth : ∀ i : Nat, i < xs.length → ∃ d, xs[i]? = some d ∧ xs.getD i .none = d := fun i hi => ⟨xs[i], List.getElem?_eq_getElem hi, by rw [List.getD_eq_getElem?_getD, List.getElem?_eq_getElem hi]; rfl⟩
      obtain ⟨d0, hd0, hg0⟩ := nth 0 (by omega)
      refine qv_when (b := !(usB n rs (hk rs (xs.getD 0 .none)))) a4 (et_cmp (ed_KU (ed_LS (i := 0) (j := 2) rfl rfl hp g hl (by omega)) (ed_op (ed_var (i := 3) rfl hkd) ed_int (rd_ixL (atI_nat (j := 0) (by rw [List.getElem?_map, hd0, hg0]; rfl)))) eg)) (fun hb3 B5 H5 e5 a5 => ?_) (fun hb3 B5 H5 e5 a5 => ?_)
      · refine sv_ret (P := DD K (.bool false)) a5 ed_bl fun v1 B6 H6 e6 a6 h2 => ?_
        obtain rfl := dd_bl h2
        refine fin _ B6 H6 a6 ?_
        rw [lpE, hall]
        rw [Bool.not_eq_true'] at hb3
        rw [hb3]
        rfl
      have hus : usB n rs (hk rs (xs.getD 0 .none)) = true := by simpa using hb3
      have hp := upc_ins _ _ _ e5 hp
      have hv := hv.up e5
      have hkd := hkd.up e5
      refine sv_ret (P := DD K (.bool (chB rs xs))) a5 (ed_is (ev_cb (eds_cons (ed_lcR (K := K) (n := ((xs.length : Nat) : Int)) (fun _ => true) (fun i => .bool (pk rs (xs.getD (prevI xs.length i) .none) == hk rs (xs.getD i .none))) (eds_cons (ev_cb (eds_cons (ed_var (i := 1) rfl hv) eds_nil) (rc_len rfl)) eds_nil) ⟨by omega, by omega⟩ (fun _ => rfl) (fun i B6 hi e6 => et_yes) (fun i B6 hi _ e6 => ?_)) eds_nil) (rc_all' (bs := (List.range xs.length).map fun i => pk rs (xs.getD (prevI xs.length i) .none) == hk rs (xs.getD i .none)) (by rw [List.filter_eq_self.mpr (fun _ _ => rfl), List.map_map]; rfl))) (by rw [List.all_map]; rfl)) fun v1 B6 H6 e6 a6 h2 => ?_
      · have hi' : i < xs.length := by omega
        obtain ⟨d1, h1, g1⟩ := nth (prevI xs.length i) (prev_lt hi')
        obtain ⟨d2, h2, g2⟩ := nth i hi'
        obtain ⟨x, y, ed1, si, _⟩ := each d1 (List.mem_of_getElem? h1)
        rw [g1, g2]
        refine ed_is (ed_op (ed_PB (i := 0) (a := x) (b := y) rfl (upc_ins _ _ _ e6 hp) g (ed_is (ed_op (ed_var (i := 1) rfl (hv.up e6)) (ed_op (ed_var (i := 6) rfl (.int (i : Int))) ed_int rd_sub) (rd_ixT (atI_prev hi' h1))) ed1) si) (ed_op (ed_var (i := 3) rfl (hkd.up e6)) (ed_var (i := 6) rfl (.int (i : Int))) (rd_ixL (atI_nat (j := i) (by rw [List.getElem?_map, h2]; rfl)))) (rd_eqD rfl rfl)) ?_
        rw [eqv_int, ed1]
        rfl
      · obtain rfl := dd_bl h2
        refine fin _ B6 H6 a6 ?_
        rw [lpE, hall, hus]
        rfl
    · have hs' : isTupD d = false := by simpa using hs
      refine qv_when (b := true) a (et_is (et_or (b := true) (c := true) (et_is (et_not (et_val (ed_isi (ed_var (i := 1) rfl hv) (kit_tup _)))) (by rw [hs']; rfl)) fun h => nomatch h) rfl) (fun _ B1 H1 e1 a1 => ?_) (fun h => nomatch h)
      refine sv_ret (P := DD K (.bool false)) a1 ed_bl fun v1 B2 H2 e2 a2 h3 => ?_
      obtain rfl := dd_bl h3
      refine fin _ B2 H2 a2 ?_
      cases d <;> first | rfl | cases hs'

end
end K33

namespace K33
open PySem PySem.Spec PyProof.Rows L2 Evl Ex Dx StX
open PySem.PyData (strOk)
section
variable {P : Program} {w : World} {K : PySem.W.Frag} {mg : Str → Option Value} {base : Heap} {f : Addr} {fd : FuncData}


/-! ### _law_is_loop -/
def spIL (K : PySem.W.Frag) : Sp := fun vs H Q _ => ∃ (B : Hp) (vg v : V) (n : Nat) (rs : List PyData) (d : PyData), vs = [vg, v] ∧ Ex B H ∧ Dd K B vg (.tuple [.int (n : Nat), .tuple rs]) ∧ Gs n rs ∧ Dd K B v d ∧ Sm 60 d ∧ ∀ B' H', Step (fun _ => False) B H B' H' → Q (.bl (loopB n rs d)) H'
theorem nums_two {d : PyData} (h : numsD d 90 = true) : ∃ ds, d = .tuple ds ∧ (ds.length = 2 → ∃ a b : Int, ds = [.int a, .int b] ∧ (0 ≤ a ∧ a ≤ 89) ∧ 0 ≤ b ∧ b ≤ 89) := by
  cases d with
  | tuple ds =>
    refine ⟨ds, rfl, fun hl => ?_⟩
    match ds, hl with
    | [x, y], _ =>
      have h1 : (inB x 0 (90 - 1) && (inB y 0 (90 - 1) && true)) = true := h
      rw [Bool.and_eq_true, Bool.and_eq_true] at h1
      obtain ⟨a, rfl, a0, a1⟩ := inB_is h1.1
      obtain ⟨b, rfl, b0, b1⟩ := inB_is h1.2.1
      exact ⟨a, b, rfl, ⟨a0, by omega⟩, b0, by omega⟩
  | _ => cases h
theorem inB_int {a lo hi : Int} (h : lo ≤ a ∧ a ≤ hi) : inB (.int a) lo hi = true := by
  show (decide (lo ≤ a) && decide (a ≤ hi)) = true
  rw [decide_eq_true h.1, decide_eq_true h.2]
  rfl
theorem stp_nums {n : Nat} {rs : List PyData} {L : List Int} {d : PyData} (g : Gs n rs) (h : stpB rs L d = true) : numsD d 90 = true := by
  obtain ⟨a, b, rfl, si, _⟩ := stp_is h
  have h2 := (g.rf _ (rlA_at si.1).2).parts.1
  have l9 := g.l9
  obtain ⟨s1, s2⟩ := si
  show (inB (.int a) 0 (90 - 1) && (inB (.int b) 0 (90 - 1) && true)) = true
  rw [inB_int ⟨by omega, by omega⟩, inB_int ⟨by omega, by omega⟩]
  rfl
theorem stp_two {rs : List PyData} {L : List Int} {a b : Int} : stpB rs L (.tuple [.int a, .int b]) = (inB (.int a) 0 ((rs.length : Nat) - 1) && (inB (.int b) 0 (((prtL (rlA rs a)).length : Nat) - 1) && livB L (rlA rs a))) := rfl
theorem not_stp {rs : List PyData} {L : List Int} {xs : List PyData} {d : PyData} (hd : d ∈ xs) (h : stpB rs L d = false) : xs.all (stpB rs L) = false := by
  cases hh : xs.all (stpB rs L) with
  | false => rfl
  | true =>
    have := List.all_eq_true.mp hh d hd
    rw [h] at this
    cases this

abbrev s_law_is_loop : Stmt := topS 63
abbrev N_law_is_loop : List Str := ["grammar", "value", "rules", "live", "ends", "step", "parts", "k", "part"]
theorem sc_law_is_loop : FnScope N_law_is_loop ["grammar", "value"] (defScope s_law_is_loop) := ⟨rfl, rfl, rfl, by decide +kernel, rfl, by decide +kernel, by decide +kernel⟩
theorem ok_law_is_loop (F : Fun K "_law_is_loop" "_law_is_loop" s_law_is_loop f fd) (T : TC K mg) (C_law_parts : Callee P w K mg base "_law_parts" 1 ["rule"] (spF K preRF fPts)) (C_law_live : Callee P w K mg base "_law_live" 2 ["grammar"] (spF K preGr fLLv)) (C_law_is_numbers : Callee P w K mg base "_law_is_numbers" 2 ["value", "many"] (spF K (fun ds => ∃ d n, ds = [d, .int n] ∧ Sm 60 d) fNums)) (C_law_in_use : Callee P w K mg base "_law_in_use" 3 ["grammar"] (spF K preGr fUse)) : FnOk P w K mg base CX0 4 f fd ["grammar", "value"] (spIL K) := by
  refine F.ok sc_law_is_loop (fun vs H Q E h => ?_) (fun cdv A outer s H vs Q E hr h => ?_)
  · obtain ⟨B, vg, v, n, rs, d, rfl, _⟩ := h
    rfl
  · obtain ⟨B, vg, v, n, rs, d, rfl, e, hg, g, hv, hs, q⟩ := h
    have hu64 : (A.deeper (envOfC "_law_is_loop" (defScope s_law_is_loop) s.heap.objs.size f cdv)).units + 64 < cLine := hr.units
    refine ⟨_, (pss_cons (ps_set (i := 2) sc_law_is_loop.nd rfl (Or.inr rfl) (pe_ix (ix_seqK K) (pv 0) pe_int (fun _ _ => rfl)))
      (pss_cons (ps_if (PW.pt (pw_or (pt_not (pt_val (pe_callB (call_isiK1 K) (by rfl) T.m_isinstance bt_isinstance (pa_cons (pv 1) (pa_cons (pe_bltn (v := .ty "tuple") (by rfl) T.m_tuple bt_tuple rfl) pa_nil))))) (pw_or (pt_cmpR (op_eqDK K hu64) (pv 1) (pe_tup pa_nil) (nomark _)) (pw_or1 (pt_cmpR op_gt (pe_callB (call_lenK K) (by rfl) T.m_len bt_len (pa_cons (pv 1) pa_nil)) pe_int (nomark _)))))) (pss_one (ps_ret pe_bl)) pss_nil)
      (pss_cons (ps_set (i := 3) sc_law_is_loop.nd rfl (Or.inr rfl) (pe_callC C_law_live (hr.mono (by decide)) rfl pass0 (pa_cons (pv 0) pa_nil)))
      (pss_cons (ps_set (i := 4) sc_law_is_loop.nd rfl (Or.inr rfl) (pe_lst pa_nil))
      (pss_cons (ps_for PassesOwn.never rfl (pi_seqK K (pv 1)) (pg_name (i := 5) sc_law_is_loop.nd rfl (Or.inl rfl)) (pss_cons (ps_if (PW.pt (pw_or (pt_not (pt_val (pe_callC C_law_is_numbers (hr.mono (by decide)) rfl pass0 (pa_cons (pv 5) (pa_cons pe_int pa_nil))))) (pw_or (pt_cmpR (op_neDK K hu64) (pe_callB (call_lenK K) (by rfl) T.m_len bt_len (pa_cons (pv 5) pa_nil)) pe_int (nomark _)) (pw_or1 (pt_cmpR op_ge (pe_ix (ix_seqK K) (pv 5) pe_int (fun _ _ => rfl)) (pe_callB (call_lenK K) (by rfl) T.m_len bt_len (pa_cons (pv 2) pa_nil)) (nomark _)))))) (pss_one (ps_ret pe_bl)) pss_nil)
      (pss_cons (ps_set (i := 6) sc_law_is_loop.nd rfl (Or.inl rfl) (pe_callC C_law_parts (hr.mono (by decide)) rfl pass0 (pa_cons (pe_ix (ix_seqK K) (pv 2) (pe_ix (ix_seqK K) (pv 5) pe_int (fun _ _ => rfl)) (fun _ _ => rfl)) pa_nil)))
      (pss_cons (ps_if (PW.pt (pw_or (pt_cmpR op_ge (pe_ix (ix_seqK K) (pv 5) pe_int (fun _ _ => rfl)) (pe_callB (call_lenK K) (by rfl) T.m_len bt_len (pa_cons (pv 6) pa_nil)) (nomark _)) (pw_or1 (pt_cmpR (op_neDK K hu64) (pe_lc (own := [("part", 8)]) rfl sc_law_is_loop.nd (pi_seqK K (pv 6)) (blkOk_by (own := [("part", 8)]) (N := N_law_is_loop) (sc := defScope s_law_is_loop) (by decide +kernel)) (fun _ _ _ _ _ => pg_name (i := 8) sc_law_is_loop.nd rfl (Or.inl rfl)) (fun _ _ _ _ _ => (pts_one (pt_cmpR (op_ninK K) (pv 8) (pv 3) (by rfl)))) (fun _ _ _ _ _ => (pv 8))) (pe_lst pa_nil) (nomark _))))) (pss_one (ps_ret pe_bl)) pss_nil)
      (pss_one (ps_expr (pe_bm PySem.F.plainAttrs_list PySem.F.slot_list_append PySem.F.type_list_append mt_append (pv 4) (pa_cons (pe_ix (ix_seqK K) (pv 6) (pe_ix (ix_seqK K) (pv 5) pe_int (fun _ _ => rfl)) (fun _ _ => rfl)) pa_nil))))))))
      (pss_cons (ps_if (pt_cmpR (op_ninK K) (pe_ix (ix_seqK K) (pe_ix (ix_seqK K) (pv 2) (pe_ix (ix_seqK K) (pe_ix (ix_seqK K) (pv 1) pe_int (fun _ _ => rfl)) pe_int (fun _ _ => rfl)) (fun _ _ => rfl)) pe_int (fun _ _ => rfl)) (pe_callC C_law_in_use (hr.mono (by decide)) rfl pass0 (pa_cons (pv 0) pa_nil)) (by rfl)) (pss_one (ps_ret pe_bl)) pss_nil)
      (pss_one (ps_ret (pe_cmpR (op_eqDK K hu64) (pe_lc (own := [("k", 7)]) rfl sc_law_is_loop.nd (pi_range1 rfl T.m_range (pa_cons (pe_callB (call_lenK K) (by rfl) T.m_len bt_len (pa_cons (pv 1) pa_nil)) pa_nil)) (blkOk_by (own := [("k", 7)]) (N := N_law_is_loop) (sc := defScope s_law_is_loop) (by decide +kernel)) (fun _ _ _ _ _ => pg_name (i := 7) sc_law_is_loop.nd rfl (Or.inl rfl)) (fun _ _ _ _ _ => (pts_one (pt_cmpR (op_neDK K hu64) (pe_ix (ix_seqK K) (pe_ix (ix_seqK K) (pv 2) (pe_ix (ix_seqK K) (pe_ix (ix_seqK K) (pv 1) (pv 7) (fun _ _ => rfl)) pe_int (fun _ _ => rfl)) (fun _ _ => rfl)) pe_int (fun _ _ => rfl)) (pe_ix (ix_seqK K) (pv 4) (pe_op op_sub (pv 7) pe_int) (fun _ _ => rfl)) (nomark _)))) (fun _ _ _ _ _ => (pv 7))) (pe_lst pa_nil) (nomark _)))))))))), ?_⟩
    have l9 := g.l9
    have n8 := g.n8
    have eg := g.eg (liveL rs n)
    have hLl := live_len g
    have fin : ∀ b B1 H1 L, Ow Fm.pure B H B1 H1 L → b = loopB n rs d → Q (.bl b) H1 := fun b B1 H1 L w1 eb => by
      rw [eb]
      exact q B1 H1 w1.st
    refine wq_asg (P := DD K (.tuple rs)) (ow_nil (F := Fm.pure) (Ok.any e)) (ed_op (ed_var (i := 0) rfl hg) ed_int (rd_ixT at2_1)) fun vr B1 H1 w1 e1 hrs => ?_
    have hg := hg.up e1
    have hv := hv.up e1
    by_cases htp : isTupD d = true
    · obtain ⟨xs, rfl⟩ := tup_is htp
      have lenV : ∀ {σ : L2.St} {B1 : Hp} {L : List Int}, σ[1]? = some (some v) → Dd K B1 v (.tuple xs) → ED Fm.pure K (tCB (fun xs H Q => ∃ x n, xs = [x] ∧ LenV K x H n ∧ Q (.int (n : Nat)) H) (tCons (tVar 1) tNil)) σ B1 (.int ((xs.length : Nat) : Int)) := fun h1 h2 => ev_cb (eds_cons (ed_var h1 h2) eds_nil) (rc_len rfl)
      refine wq_when (b := xs.isEmpty || decide ((90 : Int) < (xs.length : Nat))) w1 (et_is (et_or (b := false) (et_not (et_val (ed_isi (ed_var (i := 1) rfl hv) (kit_tup _)))) fun _ => et_or (et_is (et_cmp (ed_op (ed_var (i := 1) rfl hv) (ed_tup eds_nil) (rd_eqD hs.sh rfl))) (eqv_nilT xs)) fun _ => et_cmp (ed_op (lenV (L := []) rfl hv) ed_int rd_gt)) (Bool.false_or _)) (fun hb B2 H2 w2 e2 => ?_) (fun hb B2 H2 w2 e2 => ?_)
      · refine ws_ret (P := DD K (.bool false)) w2 ed_bl fun v1 B3 H3 w3 e3 h3 => ?_
        obtain rfl := dd_bl h3
        refine fin _ B3 H3 _ w3 ?_
        show false = ((decide ((1 : Int) ≤ (xs.length : Nat)) && decide (((xs.length : Nat) : Int) ≤ 90)) && _)
        rw [Bool.or_eq_true, List.isEmpty_iff, decide_eq_true_eq] at hb
        rcases hb with rfl | hb
        · rfl
        · rw [decide_eq_false (show ¬ (((xs.length : Nat) : Int) ≤ 90) by omega), Bool.and_false, Bool.false_and]
      rw [Bool.or_eq_false_iff, decide_eq_false_iff_not] at hb
      have hne : 1 ≤ xs.length := by
        cases xs with
        | nil => exact absurd hb.1 (by decide)
        | cons x l => exact Nat.succ_pos _
      have lpE : loopB n rs (.tuple xs) = (xs.all (stpB rs (liveL rs n)) && (usB n rs (hk rs (xs.getD 0 .none)) && chB rs xs)) := by
        show ((decide ((1 : Int) ≤ (xs.length : Nat)) && decide (((xs.length : Nat) : Int) ≤ 90)) && _) = _
        rw [decide_eq_true (show (1 : Int) ≤ (xs.length : Nat) by omega), decide_eq_true (show ((xs.length : Nat) : Int) ≤ 90 by omega)]
        rfl
      have hg := hg.up e2
      have hv := hv.up e2
      have hrs := hrs.up e2
      refine wq_asg (P := DD K (.list ((liveL rs n).map .int))) w2 (ed_F (eds_cons (ed_var (i := 0) rfl hg) eds_nil) ⟨n, rs, rfl, g⟩ rfl) fun vl B3 H3 w3 e3 hl => ?_
      have hg := hg.up e3
      have hv := hv.up e3
      have hrs := hrs.up e3
      refine wq_lst (i := 4) w3 fun na w4 => ?_
      refine oq_forD (K := K) (F := Fm.pure) (g := gName 5) (ds := xs) w4.k (ev_seqT (ed_var (i := 1) rfl hv)) (fun i σ' B' H' => (∃ o5 o6, σ' = [some vg, some v, some vr, some vl, some (.ref na), o5, o6, none, none]) ∧ Ex B3 B' ∧ Ow Fm.pure B H B' H' [(na, .lst (((xs.take i).map (pk rs)).map V.int))] ∧ (xs.take i).all (stpB rs (liveL rs n)) = true) (fun i σ' B' H' ⟨_, _, w', _⟩ => w'.k.e)
        (fun B5 H5 s5 k5 => ⟨⟨_, _, rfl⟩, s5.bb, w4.pass s5 k5, by rw [List.take_zero]; rfl⟩) (fun Bb i d v5 σ' B5 H5 hdi eb e5 hv5 hj => ?_) (fun σ' B5 H5 e5 hj => ?_)
      · obtain ⟨⟨o5, o6, rfl⟩, e35, w5, hal⟩ := hj
        have hdm := List.mem_of_getElem? hdi
        have hsd : Sm 60 d := (hs.memT hdm).le (by decide)
        have hrs5 := hrs.up e35
        have bad : ∀ {B6 H6 L}, Ow Fm.pure B H B6 H6 L → stpB rs (liveL rs n) d = false → Q (.bl false) H6 := fun w6 hb => fin _ _ _ _ w6 (by rw [lpE, not_stp hdm hb]; rfl)
        have lenR : ∀ {σ : L2.St} {B1 : Hp}, σ[2]? = some (some vr) → Dd K B1 vr (.tuple rs) → ED Fm.pure K (tCB (fun xs H Q => ∃ x n, xs = [x] ∧ LenV K x H n ∧ Q (.int (n : Nat)) H) (tCons (tVar 2) tNil)) σ B1 (.int ((rs.length : Nat) : Int)) := fun h1 h2 => ev_cb (eds_cons (ed_var h1 h2) eds_nil) (rc_len rfl)
        have nm : ED Fm.pure K (tCall (spF K (fun ds => ∃ d n, ds = [d, .int n] ∧ Sm 60 d) fNums) [] E0 (tCons (tVar 5) (tCons (tC (.int 90)) tNil))) [some vg, some v, some vr, some vl, some (.ref na), some v5, o6, none, none] B5 (.bool (numsD d 90)) := ed_F (eds_cons (ed_var (i := 5) rfl hv5) (eds_cons ed_int eds_nil)) ⟨d, 90, rfl, hsd⟩ rfl
        dsimp only [gName]
        by_cases hn : numsD d 90 = true
        · obtain ⟨ds, rfl, two⟩ := nums_two hn
          have len5 : ED Fm.pure K (tCB (fun xs H Q => ∃ x n, xs = [x] ∧ LenV K x H n ∧ Q (.int (n : Nat)) H) (tCons (tVar 5) tNil)) [some vg, some v, some vr, some vl, some (.ref na), some v5, o6, none, none] B5 (.int ((ds.length : Nat) : Int)) := ev_cb (eds_cons (ed_var rfl hv5) eds_nil) (rc_len rfl)
          by_cases h2 : ds.length = 2
          · obtain ⟨a, b, rfl, ha, hb2⟩ := two h2
            refine wq_when (b := decide (((rs.length : Nat) : Int) ≤ a)) w5 (et_is (et_or (b := false) (et_is (et_not (et_val nm)) (by rw [hn]; rfl)) fun _ => et_or (b := false) (et_is (et_cmp (ed_op len5 ed_int (rd_neD rfl rfl))) (by rw [eqv_int]; rfl)) fun _ => et_cmp (ed_op (ed_op (ed_var (i := 5) rfl hv5) ed_int (rd_ixT at2_0)) (lenR rfl hrs5) rd_ge)) (by rfl)) (fun hb B6 H6 w6 e6 => ?_) (fun hb B6 H6 w6 e6 => ?_)
            · refine ws_ret (P := DD K (.bool false)) w6 ed_bl fun v1 B7 H7 w7 e7 h7 => ?_
              obtain rfl := dd_bl h7
              refine bad w7 ?_
              rw [decide_eq_true_eq] at hb
              rw [stp_two, show inB (.int a) 0 ((rs.length : Nat) - 1) = false from by
                show (decide (0 ≤ a) && decide (a ≤ ((rs.length : Nat) : Int) - 1)) = false
                rw [decide_eq_false (show ¬ (a ≤ ((rs.length : Nat) : Int) - 1) by omega), Bool.and_false]]
              rfl
            rw [decide_eq_false_iff_not] at hb
            obtain ⟨r1, r2⟩ := rlA_at (rs := rs) (a := a) ⟨ha.1, by omega⟩
            have hrf := g.rf _ r2
            have hpl := hrf.parts.1
            have hv6 := hv5.up e6
            refine wq_asg (P := DD K (.tuple ((prtL (rlA rs a)).map .int))) w6 (ed_F (eds_cons (ed_op (ed_var (i := 2) rfl (hrs5.up e6)) (ed_op (ed_var (i := 5) rfl hv6) ed_int (rd_ixT at2_0)) (rd_ixT r1)) eds_nil) ⟨rlA rs a, n, rfl, hrf⟩ rfl) fun vp B7 H7 w7 e7 hpt => ?_
            have hv7 := hv6.up e7
            have hl7 := hl.up (((e35.trans e6).trans e7))
            refine wq_when (b := decide ((((prtL (rlA rs a)).length : Nat) : Int) ≤ b) || !livB (liveL rs n) (rlA rs a)) w7 (et_or (et_cmp (ed_op (ed_op (ed_var (i := 5) rfl hv7) ed_int (rd_ixT at2_1)) (ed_is (ev_cb (eds_cons (ed_var (i := 6) rfl hpt) eds_nil) (rc_len rfl)) (by show PyData.int ((((prtL (rlA rs a)).map PyData.int).length : Nat) : Int) = .int (((prtL (rlA rs a)).length : Nat) : Int); rw [List.length_map])) rd_ge)) fun _ => et_is (et_cmp (ed_op (ed_lcD (K := K) (ds := (prtL (rlA rs a)).map .int) (fun d => !(liveL rs n).contains (numI d)) (fun d => d) (ev_seqT (ed_var (i := 6) rfl hpt)) (by rw [List.length_map]; omega) (fun _ => rfl) (fun d u B8 hm e8 hu => ?_) (fun d u B8 hm _ e8 hu => ed_var (i := 8) rfl hu)) (ed_lst eds_nil) (rd_neD ?_ rfl))) ?_) (fun hc B8 H8 w8 e8 => ?_) (fun hc B8 H8 w8 e8 => ?_)
            · obtain ⟨x, _, rfl⟩ := List.mem_map.mp hm
              exact et_is (et_cmp (ed_op (ed_var (i := 8) rfl hu) (ed_var (i := 3) rfl (hl7.up e8)) (rd_notin (.inl rfl) rfl (flatI _)))) (congrArg Bool.not (inD_int _ _))
            · rw [ints_filter]
              exact (sm_lst (n := 5) fun d hd => by
                obtain ⟨x, _, rfl⟩ := List.mem_map.mp hd
                exact sm_int).sh
            · rw [ints_filter, eqv_nil, List.isEmpty_map, ← liv_emp]
              rfl
            · refine ws_ret (P := DD K (.bool false)) w8 ed_bl fun v1 B9 H9 w9 e9 h9 => ?_
              obtain rfl := dd_bl h9
              refine bad w9 ?_
              rw [Bool.or_eq_true, decide_eq_true_eq, Bool.not_eq_true'] at hc
              rw [stp_two]
              rcases hc with hc | hc
              · rw [show inB (.int b) 0 (((prtL (rlA rs a)).length : Nat) - 1) = false from by
                  show (decide (0 ≤ b) && decide (b ≤ (((prtL (rlA rs a)).length : Nat) : Int) - 1)) = false
                  rw [decide_eq_false (show ¬ (b ≤ (((prtL (rlA rs a)).length : Nat) : Int) - 1) by omega), Bool.and_false], Bool.false_and, Bool.and_false]
              · rw [hc, Bool.and_false, Bool.and_false]
            · rw [Bool.or_eq_false_iff, decide_eq_false_iff_not, Bool.not_eq_false'] at hc
              have si : StI rs a b := ⟨⟨ha.1, by omega⟩, hb2.1, by omega⟩
              have good : stpB rs (liveL rs n) (.tuple [.int a, .int b]) = true := by
                rw [stp_two, inB_int ⟨ha.1, by omega⟩, inB_int ⟨hb2.1, by omega⟩, hc.2]
                rfl
              refine ws_app (K := K) (d := .int (ptA rs a b)) w8 (i := 4) rfl (ed_op (ed_var (i := 6) rfl (hpt.up e8)) (ed_op (ed_var (i := 5) rfl (hv7.up e8)) ed_int (rd_ixT at2_1)) (rd_ixT (ptA_at si.2).1)) (by rw [List.length_map, List.length_map, List.length_take]; omega) fun v9 B9 H9 w9 e9 g9 => ?_
              obtain rfl := dd_int g9
              refine ⟨B9, e5.trans (((e6.trans e7).trans e8).trans e9), ⟨_, _, rfl⟩, e35.trans (((e6.trans e7).trans e8).trans e9), ?_, ?_⟩
              · rw [take_snoc hdi, List.map_append, List.map_append]
                exact w9
              · rw [take_snoc hdi, List.all_append, hal]
                show (true && (stpB rs (liveL rs n) (.tuple [.int a, .int b]) && true)) = true
                rw [good]
                rfl
          · refine wq_when (b := true) w5 (et_is (et_or (b := false) (c := true) (et_is (et_not (et_val nm)) (by rw [hn]; rfl)) fun _ => et_is (et_or (b := true) (c := true) (et_is (et_cmp (ed_op len5 ed_int (rd_neD rfl rfl))) (by
              rw [eqv_int, Bool.not_eq_true', beq_eq_false_iff_ne]
              omega)) fun h => nomatch h) rfl) rfl) (fun _ B6 H6 w6 e6 => ?_) (fun h => nomatch h)
            refine ws_ret (P := DD K (.bool false)) w6 ed_bl fun v1 B7 H7 w7 e7 h7 => ?_
            obtain rfl := dd_bl h7
            refine bad w7 ?_
            cases hh : stpB rs (liveL rs n) (.tuple ds) with
            | false => rfl
            | true =>
              obtain ⟨a, b, ed, _⟩ := stp_is hh
              cases ed
              exact absurd rfl h2
        · refine wq_when (b := true) w5 (et_is (et_or (b := true) (c := true) (et_is (et_not (et_val nm)) (by rw [show numsD d 90 = false by simpa using hn]; rfl)) fun h => nomatch h) rfl) (fun _ B6 H6 w6 e6 => ?_) (fun h => nomatch h)
          refine ws_ret (P := DD K (.bool false)) w6 ed_bl fun v1 B7 H7 w7 e7 h7 => ?_
          obtain rfl := dd_bl h7
          refine bad w7 ?_
          cases hh : stpB rs (liveL rs n) d with
          | false => rfl
          | true => exact absurd (stp_nums g hh) hn
      obtain ⟨⟨o5, o6, rfl⟩, e35, w5, hal⟩ := hj
      rw [List.take_length] at w5 hal
      have each : ∀ d ∈ xs, ∃ x y : Int, d = .tuple [.int x, .int y] ∧ StI rs x y ∧ livB (liveL rs n) (rlA rs x) = true := fun d hd => stp_is (List.all_eq_true.mp hal d hd)
      obtain ⟨w6, e6, hends⟩ := w5.dropL (ds := (xs.map (pk rs)).map .int) (K := K) (ddAll_mkI _) (by rw [List.length_map, List.length_map]; omega)
      have hg := hg.up (e35.trans e6)
      have hv := hv.up (e35.trans e6)
      have hrs := hrs.up (e35.trans e6)
      have nth : ∀ i : Nat, i < xs.length → ∃ d, xs[i]? = some d ∧ xs.getD i .none = d := fun i hi => ⟨xs[i], List.getElem?_eq_getElem hi, by rw [List.getD_eq_getElem?_getD, List.getElem?_eq_getElem hi]; rfl⟩
      have hdE : ∀ {σ : L2.St} {B1 : Hp} {te : TE} {i : Nat} {d : PyData}, σ[1]? = some (some v) → σ[2]? = some (some vr) → Dd K B1 v (.tuple xs) → Dd K B1 vr (.tuple rs) → ED Fm.pure K te σ B1 (.int (i : Nat)) → xs[i]? = some d → ED Fm.pure K (tOp (rIx K) (tOp (rIx K) (tVar 2) (tOp (rIx K) (tOp (rIx K) (tVar 1) te) (tC (.int 0)))) (tC (.int 0))) σ B1 (.int (hk rs d)) := fun s1 s2 hv1 hr1 hi hd => by
        obtain ⟨x, y, rfl, si, _⟩ := each _ (List.mem_of_getElem? hd)
        obtain ⟨r1, r2⟩ := rlA_at si.1
        obtain ⟨a0, how, p, ps, er, _⟩ := g.rf _ r2
        refine ed_is (ed_op (ed_is (ed_op (ed_var s2 hr1) (ed_op (ed_op (ed_var s1 hv1) hi (rd_ixT (atI_nat (j := _) hd))) ed_int (rd_ixT at2_0)) (rd_ixT r1)) er) ed_int (rd_ixT at3_0)) ?_
        show PyData.int a0 = .int (hdI (rlA rs x))
        rw [er]
        rfl
      obtain ⟨d0, hd0, hg0⟩ := nth 0 (by omega)
      refine wq_when (b := !(usB n rs (hk rs (xs.getD 0 .none)))) w6 (et_is (et_cmp (ed_op (hdE (i := 0) rfl rfl hv hrs (ed_int (i := 0)) hd0) (ed_F (z := .list ((0 :: Gm.turns (lE n rs) 0 (n + 1)).map .int)) (eds_cons (ed_var (i := 0) rfl hg) eds_nil) ⟨n, rs, rfl, g⟩ rfl) (rd_notin (.inl rfl) rfl (flatI _)))) (by rw [inD_int, hg0]; rfl)) (fun hb3 B7 H7 w7 e7 => ?_) (fun hb3 B7 H7 w7 e7 => ?_)
      · refine ws_ret (P := DD K (.bool false)) w7 ed_bl fun v1 B8 H8 w8 e8 h2 => ?_
        obtain rfl := dd_bl h2
        refine fin _ B8 H8 _ w8 ?_
        rw [lpE, hal]
        rw [Bool.not_eq_true'] at hb3
        rw [hb3]
        rfl
      have hus : usB n rs (hk rs (xs.getD 0 .none)) = true := by simpa using hb3
      have hv := hv.up e7
      have hrs := hrs.up e7
      have hends := hends.up e7
      refine ws_ret (P := DD K (.bool (chB rs xs))) w7 (ed_is (ed_op (ed_lcR (K := K) (n := ((xs.length : Nat) : Int)) (fun i => !(hk rs (xs.getD i .none) == pk rs (xs.getD (prevI xs.length i) .none))) (fun i => .int (i : Nat)) (eds_cons (lenV (L := []) rfl hv) eds_nil) ⟨by omega, by omega⟩ (fun _ => rfl) (fun i B8 hi e8 => ?_) (fun i B8 hi _ e8 => ed_var (i := 7) rfl (.int (i : Nat)))) (ed_lst eds_nil) (rd_eqD ?_ rfl)) ?_) fun v1 B8 H8 w8 e8 h2 => ?_
      · have hi' : i < xs.length := by omega
        obtain ⟨d1, h1, g1⟩ := nth (prevI xs.length i) (prev_lt hi')
        obtain ⟨d2, h2, g2⟩ := nth i hi'
        rw [g1, g2]
        refine et_is (et_cmp (ed_op (hdE (i := i) rfl rfl (hv.up e8) (hrs.up e8) (ed_var (i := 7) rfl (.int (i : Nat))) h2) (ed_op (ed_var (i := 4) rfl (hends.up e8)) (ed_op (ed_var (i := 7) rfl (.int (i : Nat))) ed_int rd_sub) (rd_ixL (d := .int (pk rs d1)) ?_)) (rd_neD rfl rfl))) (by rw [eqv_int])
        refine atI_prev (by rw [List.length_map, List.length_map]; exact hi') ?_
        rw [List.length_map, List.length_map, List.getElem?_map, List.getElem?_map, h1]
        rfl
      · exact (sm_lst (n := 5) fun d hd => by
          obtain ⟨x, _, rfl⟩ := List.mem_map.mp hd
          exact sm_int).sh
      · rw [eqv_nil, List.isEmpty_map, filter_emp]
        unfold chB
        congr 1
        rw [show ((xs.length : Nat) : Int).toNat = xs.length from rfl]
        congr 1
        funext i
        rw [Bool.not_not, Bool.beq_comm]
      · obtain rfl := dd_bl h2
        refine fin _ B8 H8 _ w8 ?_
        rw [lpE, hal, hus]
        rfl
    · have hs' : isTupD d = false := by simpa using htp
      refine wq_when (b := true) w1 (et_is (et_or (b := true) (c := true) (et_is (et_not (et_val (ed_isi (ed_var (i := 1) rfl hv) (kit_tup _)))) (by rw [hs']; rfl)) fun h => nomatch h) rfl) (fun _ B2 H2 w2 e2 => ?_) (fun h => nomatch h)
      refine ws_ret (P := DD K (.bool false)) w2 ed_bl fun v1 B3 H3 w3 e3 h3 => ?_
      obtain rfl := dd_bl h3
      refine fin _ B3 H3 _ w3 ?_
      cases d <;> first | rfl | cases hs'

end
end K33

namespace K33
open PySem PySem.Spec PyProof.Rows L2 Evl Ex Dx StX
open PySem.PyData (strOk)
section
variable {P : Program} {w : World} {K : PySem.W.Frag} {mg : Str → Option Value} {base : Heap} {f : Addr} {fd : FuncData}

theorem ev_tup2 {F : Fm} {σ : L2.St} {B : Hp} {ta tb : TE} {Pa Pb : PyData → Prop} (ha : EV F ta σ B (fun v B => ∃ d, Dd K B v d ∧ Pa d)) (hb : EV F tb σ B (fun v B => ∃ d, Dd K B v d ∧ Pb d)) :
    EV F (tTup (tCons ta (tCons tb tNil))) σ B (fun v B => ∃ x y, Dd K B v (.tuple [x, y]) ∧ Pa x ∧ Pb y) := fun B1 e0 H j Q q =>
  ha B1 e0 H j _ fun va B2 H2 s2 j2 ⟨x, h2, px⟩ => hb B2 (e0.trans s2.bb) H2 j2 _ fun vb B3 H3 s3 j3 ⟨y, h3, py⟩ =>
    ⟨by show 2 ≤ sizeLine; decide, fun p hp => q (.ref p) _ _ ((s2.trans s3).trans (Step.alloc j3.e hp)) (j3.alloc hp) ⟨x, y, .tup (ta_of upd_same) (by show 2 ≤ sizeLine; decide) (.cons ((h2.up s3.bb).up (Ex.new (fresh_back j3.e hp))) (.cons (h3.up (Ex.new (fresh_back j3.e hp))) .nil)), px, py⟩⟩


/-! ### _law_sparse -/
def minI (a b : Int) : Int := if b < a then b else a
theorem ev_min2 {F : Fm} {σ : L2.St} {B : Hp} {ta tb : TE} {P P' : Int → Prop} (ha : EV F ta σ B (fun v _ => ∃ i, v = .int i ∧ P i)) (hb : EV F tb σ B (fun v _ => ∃ i, v = .int i ∧ P' i)) : EV F (tCB (fun xs H Q => ∃ i j, xs = [.int i, .int j] ∧ Q (.int (if j < i then j else i)) H) (tCons ta (tCons tb tNil))) σ B (fun v _ => ∃ i j, v = .int (minI i j) ∧ P i ∧ P' j) := fun B1 e1 H j Q q =>
  ha B1 e1 H j _ fun v B2 H2 s2 j2 ⟨x, hx, px⟩ => hb B2 (e1.trans s2.bb) H2 j2 _ fun w B3 H3 s3 j3 ⟨y, hy, py⟩ => ⟨x, y, by rw [hx, hy], q _ B3 H3 (s2.trans s3) j3 ⟨x, y, rfl, px, py⟩⟩
theorem ev_ifX {F : Fm} {σ : L2.St} {B : Hp} {te ta tb : TE} {P0 : PV} (h : EV F te σ B (fun v _ => ∃ b, v = .bl b)) (ha : EV F ta σ B P0) (hb : EV F tb σ B P0) : EV F (tIf (tTest te) ta tb) σ B P0 := fun B1 e1 H j Q q => h B1 e1 H j _ fun v B2 H2 s2 j2 ⟨b, hv⟩ => ⟨b, hv, by
  cases b with
  | true =>
    show ta σ H2 Q
    exact ha B2 (e1.trans s2.bb) H2 j2 Q fun v B3 H3 s3 j3 g => q v B3 H3 (s2.trans s3) j3 g
  | false =>
    show tb σ H2 Q
    exact hb B2 (e1.trans s2.bb) H2 j2 Q fun v B3 H3 s3 j3 g => q v B3 H3 (s2.trans s3) j3 g⟩
/-- min(kinds - 1, kind + 1 + _law_take(box, m)) -/
theorem ev_up {p : Addr} {σ : L2.St} {B : Hp} {i0 i1 i3 : Nat} {n : Nat} {k m : Int} (h0 : σ[i0]? = some (some (.ref p))) (h1 : σ[i1]? = some (some (.int (n : Nat)))) (h3 : σ[i3]? = some (some (.int k))) (hn : 1 ≤ n) (k0 : 0 ≤ k) (hm : 0 < m) (hm2 : m ≤ 100) : EV (Fm.box p) (tCB (fun xs H Q => ∃ i j, xs = [.int i, .int j] ∧ Q (.int (if j < i then j else i)) H) (tCons (tOp (rI0 fun i j => .int (i - j)) (tVar i1) (tC (.int 1))) (tCons (tOp (rAddA K) (tOp (rAddA K) (tVar i3) (tC (.int 1))) (tCall (spTake K) [] E0 (tCons (tVar i0) (tCons (tC (.int m)) tNil)))) tNil))) σ B (fun v B => ∃ d, Dd K B v d ∧ ∃ c : Int, d = .int c ∧ 0 ≤ c ∧ c < (n : Nat)) :=
  (ev_min2 (P := fun i => i = (n : Nat) - 1) (P' := fun j => 0 ≤ j) (EV.imp (ed_op (K := K) (ed_var h1 (.int (n : Nat))) ed_int rd_sub) fun v _ _ g => ⟨_, dd_int g, rfl⟩) (ev_op (P := DD K (.int (k + 1))) (P' := fun v _ => ∃ t : Int, v = .int t ∧ 0 ≤ t ∧ t < m) (ed_op (ed_var h3 (.int k)) ed_int rd_add) (ev_take h0 ed_int hm (by omega)) upc_dd fun B6 _ H6 u v j6 hu ⟨t, hv, t0, t1⟩ Q q => .inl ⟨k + 1, t, dd_int hu, hv, q _ B6 H6 (Step.refl j6.e) j6 ⟨k + 1 + t, rfl, by omega⟩⟩)).imp fun v B1 _ ⟨i, j, hv, hi, hj⟩ => by
    refine ⟨.int (minI i j), by rw [hv]; exact .int _, _, rfl, ?_⟩
    unfold minI
    split <;> omega
def spSpa (K : PySem.W.Frag) : Sp := fun vs H Q _ => ∃ (p : Addr) (B : Hp), vs = [.ref p] ∧ Ok (Fm.box p) B H ∧
  ∀ v B' H' (n : Nat) (rs : List PyData), Step (fun a => a = p) B H B' H' → Ok (Fm.box p) B' H' → Dd K B' v (.tuple [.int (n : Nat), .tuple rs]) → 1 ≤ n → n ≤ 8 → rs ≠ [] → GR n rs → Q v H'

abbrev s_law_sparse : Stmt := topS 65
abbrev N_law_sparse : List Str := ["box", "kinds", "rules", "k", "kind", "word", "up", "rule"]
theorem sc_law_sparse : FnScope N_law_sparse ["box"] (defScope s_law_sparse) := ⟨rfl, rfl, rfl, by decide +kernel, rfl, by decide +kernel, by decide +kernel⟩
theorem ok_law_sparse (F : Fun K "_law_sparse" "_law_sparse" s_law_sparse f fd) (T : TC K mg) (m_min : mg "min" = none) (C_law_take : Callee P w K mg base "_law_take" 1 ["box", "many"] (spTake K)) (C_law_pick : Callee P w K mg base "_law_pick" 2 ["box", "some"] (spPick K))
    (C_law_unary : Callee P w K mg base "_law_unary" 1 ["rules"] (spF K preUn fUn)) (C_law_back_kind : Callee P w K mg base "_law_back_kind" 1 ["steps", "kinds"] (spF K preBack fBack)) : FnOk P w K mg base CX0 3 f fd ["box"] (spSpa K) := by
  refine F.ok sc_law_sparse (fun vs H Q E h => ?_) (fun cdv A outer s H vs Q E hr h => ?_)
  · obtain ⟨p, B, rfl, _⟩ := h
    rfl
  · obtain ⟨p, B, rfl, ok, q⟩ := h
    have hu64 : (A.deeper (envOfC "_law_sparse" (defScope s_law_sparse) s.heap.objs.size f cdv)).units + 64 < cLine := hr.units
    refine ⟨_, (pss_cons (ps_set (i := 1) sc_law_sparse.nd rfl (Or.inl rfl) (pe_op (op_addK K) pe_int (pe_callC C_law_take (hr.mono (by decide)) rfl pass0 (pa_cons (pv 0) (pa_cons pe_int pa_nil)))))
      (pss_cons (ps_set (i := 2) sc_law_sparse.nd rfl (Or.inl rfl) (pe_lst pa_nil))
      (pss_cons (ps_for PassesOwn.never rfl (pi_range1 rfl T.m_range (pa_cons (pe_op (op_addK K) pe_int (pe_callC C_law_take (hr.mono (by decide)) rfl pass0 (pa_cons (pv 0) (pa_cons pe_int pa_nil)))) pa_nil)) (pg_name (i := 3) sc_law_sparse.nd rfl (Or.inl rfl)) (pss_cons (ps_set (i := 4) sc_law_sparse.nd rfl (Or.inl rfl) (pe_callC C_law_take (hr.mono (by decide)) rfl pass0 (pa_cons (pv 0) (pa_cons (pv 1) pa_nil))))
      (pss_cons (ps_set (i := 5) sc_law_sparse.nd rfl (Or.inl rfl) (pe_callC C_law_pick (hr.mono (by decide)) rfl pass0 (pa_cons (pv 0) (pa_cons (pe_lst (pa_cons pe_str (pa_cons pe_str (pa_cons pe_str (pa_cons pe_str (pa_cons pe_str (pa_cons pe_str pa_nil))))))) pa_nil))))
      (pss_cons (ps_set (i := 6) sc_law_sparse.nd rfl (Or.inl rfl) (pe_ifExp (pt_cmpR (op_eqDK K hu64) (pe_callC C_law_take (hr.mono (by decide)) rfl pass0 (pa_cons (pv 0) (pa_cons pe_int pa_nil))) pe_int (nomark _)) (pe_callC C_law_take (hr.mono (by decide)) rfl pass0 (pa_cons (pv 0) (pa_cons (pv 1) pa_nil))) (pe_callB (call_min2 rfl) (by rfl) m_min bt_min (pa_cons (pe_op op_sub (pv 1) pe_int) (pa_cons (pe_op (op_addK K) (pe_op (op_addK K) (pv 4) pe_int) (pe_callC C_law_take (hr.mono (by decide)) rfl pass0 (pa_cons (pv 0) (pa_cons pe_int pa_nil)))) pa_nil)))))
      (pss_cons (ps_set (i := 7) sc_law_sparse.nd rfl (Or.inl rfl) (pe_tup (pa_cons (pv 4) (pa_cons (pv 5) (pa_cons (pv 6) pa_nil)))))
      (Evl.pss_cut (ps_if (pt_cmpR (op_inK K) (pv 5) (pe_lst (pa_cons pe_str (pa_cons pe_str pa_nil))) (by rfl)) (pss_one (ps_set (i := 7) sc_law_sparse.nd rfl (Or.inl rfl) (pe_tup (pa_cons (pv 4) (pa_cons (pv 5) (pa_cons pe_str pa_nil)))))) (pss_one (ps_if (pt_cmpR (op_inK K) (pv 5) (pe_lst (pa_cons pe_str (pa_cons pe_str (pa_cons pe_str pa_nil)))) (by rfl)) (pss_one (ps_set (i := 7) sc_law_sparse.nd rfl (Or.inl rfl) (pe_op (op_addK K) (pv 7) (pe_tup (pa_cons (pe_callB (call_min2 rfl) (by rfl) m_min bt_min (pa_cons (pe_op op_sub (pv 1) pe_int) (pa_cons (pe_op (op_addK K) (pe_op (op_addK K) (pv 4) pe_int) (pe_callC C_law_take (hr.mono (by decide)) rfl pass0 (pa_cons (pv 0) (pa_cons pe_int pa_nil)))) pa_nil))) pa_nil))))) pss_nil)))
      (pss_one (ps_if (pt_cmpR op_isN (pe_callC C_law_back_kind (hr.mono (by decide)) rfl pass0 (pa_cons (pe_callC C_law_unary (hr.mono (by decide)) rfl pass0 (pa_cons (pe_op (op_addK K) (pv 2) (pe_lst (pa_cons (pv 7) pa_nil))) pa_nil)) (pa_cons (pv 1) pa_nil))) pe_non (nomark _)) (pss_one (ps_expr (pe_bm PySem.F.plainAttrs_list PySem.F.slot_list_append PySem.F.type_list_append mt_append (pv 2) (pa_cons (pv 7) pa_nil)))) pss_nil))))))))
      (pss_one (ps_ret (pe_tup (pa_cons (pv 1) (pa_cons (pe_ifExp (pt_cmpR (op_neDK K hu64) (pv 2) (pe_lst pa_nil) (nomark _)) (pe_callTy (call_tuple_ofK K) (by rfl) T.m_tuple bt_tuple (pa_cons (pv 2) pa_nil)) (pe_tup (pa_cons (pe_tup (pa_cons pe_int (pa_cons pe_str (pa_cons pe_str pa_nil)))) pa_nil))) pa_nil)))))))), ?_⟩
    have a0 : At (Fm.box p) B H B H := At.start ok
    have plus : ∀ (σ : L2.St) B5 (k : Int), 0 ≤ k → k ≤ 3 → σ[0]? = some (some (V.ref p)) → EV (Fm.box p) (tOp (rAddA K) (tC (.int k)) (tCall (spTake K) [] E0 (tCons (tVar 0) (tCons (tC (.int 7)) tNil)))) σ B5 (fun v _ => ∃ m : Int, v = .int m ∧ k ≤ m ∧ m ≤ k + 6) := fun σ B5 k k0 k3 h0 => ev_op (P := DD K (.int k)) (P' := fun v _ => ∃ m : Int, v = .int m ∧ 0 ≤ m ∧ m < 7) ed_int (ev_take (m := 7) h0 ed_int (by decide) (by decide)) upc_dd fun B6 _ H6 u v j6 hu ⟨m, hv, m0, m1⟩ Q q => .inl ⟨k, m, dd_int hu, hv, q _ B6 H6 (Step.refl j6.e) j6 ⟨k + m, rfl, by omega, by omega⟩⟩
    refine qv_asg a0 (plus _ _ 2 (by decide) (by decide) rfl) fun vn B3 H3 e3 a3 ⟨n', hn, n1, n8⟩ => ?_
    subst hn
    obtain ⟨n, rfl⟩ : ∃ n : Nat, n' = (n : Int) := ⟨n'.toNat, by omega⟩
    have n1 : 1 ≤ n := by omega
    have n8 : n ≤ 8 := by omega
    refine ⟨Nat.zero_le _, fun fa hfa => ?_⟩
    have k3 := a3.j
    have nfp : fa ≠ p := fun z => ((Fm.box p).lv H3 p k3.j rfl).ne (z ▸ hfa)
    have takek : ∀ (σ : L2.St) B5, σ[0]? = some (some (V.ref p)) → σ[1]? = some (some (V.int (n : Nat))) → EV (Fm.box p) (tCall (spTake K) [] E0 (tCons (tVar 0) (tCons (tVar 1) tNil))) σ B5 (fun v B => ∃ d, Dd K B v d ∧ ∃ c : Int, d = .int c ∧ 0 ≤ c ∧ c < (n : Nat)) := fun σ B5 h2 h3 => (ev_take h2 (ed_var h3 (.int (n : Nat))) (by omega) (by omega)).imp fun v B1 _ ⟨c, hc, c0, c1⟩ => ⟨.int c, by rw [hc]; exact .int c, c, rfl, c0, c1⟩
    obtain ⟨B', acc, s', k', hb, hd, ha⟩ := cq_start (K := K) k3 hfa
    refine plus _ _ 3 (by decide) (by decide) rfl B' (Ex.refl B') _ k' _ fun vm B4 H4 s4 k4 ⟨m, hm, m0, m9⟩ => ?_
    subst hm
    refine ⟨m, rfl, by omega, by omega, for_range (lo := 0) (n := m.toNat) (fun i σ' H' => (∃ o3 o4 o5 o6 o7, σ' = [some (.ref p), some (.int (n : Nat)), some (.ref fa), o3, o4, o5, o6, o7]) ∧ ∃ rs, rs.length ≤ i ∧ GR n rs ∧ Cq (Fm.box p) K B3 H3 fa rs H') ⟨⟨_, _, _, _, _, rfl⟩, [], Nat.le_refl _, ⟨by decide, fun r h => (nomatch h), backK_none fun k hk => ?_⟩, cq_pass hfa k3 s' hb hd ha s4 k4⟩ (fun i σ' H' hi ⟨⟨o3, o4, o5, o6, o7, ho⟩, rs, hri, G, B', acc, s', k', hb, hd, ha⟩ => ?_) (fun σ' H' ⟨⟨o3, o4, o5, o6, o7, ho⟩, rs, hri, G, c⟩ => ?_)⟩
    · cases hh : (Gm.turns (edges []) (k : Int) (n + 1)).contains (k : Int) with
      | false => rfl
      | true =>
        have h1 := Gm.turns_sound _ _ (List.contains_iff_mem.mp hh)
        cases h1 with
        | one e => cases e
        | more _ e => cases e
    · subst ho
      have hlt : rs.length < 9 := by omega
      obtain ⟨kx, dx⟩ := cq_open hfa k3 k' hb hd ha (by omega)
      have eB3 : Ex B3 (upd B' fa (.lst acc)) := s'.bb.trans (Ex.new hb)
      have aX : At (Fm.box p) (upd B' fa (.lst acc)) H' (upd B' fa (.lst acc)) H' := At.start kx
      refine qv_asg aX (takek _ _ rfl rfl) fun vk B5 H5 e5 a5 hh5 => ?_
      obtain ⟨_, hk, k, rfl, k0, k1'⟩ := hh5
      obtain rfl := dd_int hk
      refine qv_asg (P := fun v _ => ∃ wd : Str, v = .str wd ∧ wd ∈ L8) a5 ((ev_pick (d := .list ((["left", "right", "wrap", "ahead", "behind", "same"] : List Str).map .str)) rfl (ed_lst (eds_cons ed_str (eds_cons ed_str (eds_cons ed_str (eds_cons ed_str (eds_cons ed_str (eds_cons ed_str eds_nil))))))) (.inl rfl) (fun z => nomatch z) (by show 6 < 1073741824; decide)).imp fun v B1 _ ⟨x, hx, hv⟩ => by
        obtain ⟨u, hu, rfl⟩ := List.mem_map.mp hx
        exact ⟨u, (dd_str hv).1, (by decide +kernel : ∀ u ∈ (["left", "right", "wrap", "ahead", "behind", "same"] : List Str), u ∈ L8) u hu⟩) fun vwd B6 H6 e6 a6 ⟨wd, hwd, h8⟩ => ?_
      subst hwd
      have l8 := l8_ok wd h8
      have wl : wd.length ≤ sizeLine := by rw [sizeLine_eq]; have := l8.2.1; omega
      refine qv_asg a6 (ev_ifX (ev_op (P := fun v _ => ∃ m : Int, v = .int m ∧ 0 ≤ m ∧ m < 3) (P' := DD K (.int 0)) (ev_take (m := 3) rfl ed_int (by decide) (by decide)) ed_int (fun _ _ _ _ h => h) (fun B7 _ H7 u v j7 ⟨k, hu, _⟩ hv Q q => rd_eqD (F := Fm.box p) (K := K) (B := B7) (x := .int k) (y := .int 0) rfl rfl B7 (Ex.refl B7) H7 u v j7 (by rw [hu]; exact .int k) hv Q fun w B8 H8 s8 j8 g8 => q w B8 H8 s8 j8 ⟨_, dd_bl g8⟩)) (takek _ _ rfl rfl) (ev_up (i0 := 0) (i1 := 1) (i3 := 4) rfl rfl rfl n1 k0 (by decide) (by decide))) fun vu B7 H7 e7 a7 hh7 => ?_
      obtain ⟨_, hu, c, rfl, c0, c1⟩ := hh7
      obtain rfl := dd_int hu
      have edk : ∀ (σ : L2.St) B7, σ[4]? = some (some (V.int k)) → EV (Fm.box p) (tVar 4) σ B7 (fun v B => ∃ d, Dd K B v d ∧ d = .int k) := fun σ B7 h7 => ev_any (ed_var h7 (.int k))
      have edw : ∀ (σ : L2.St) B7, σ[5]? = some (some (V.str wd)) → EV (Fm.box p) (tVar 5) σ B7 (fun v B => ∃ d, Dd K B v d ∧ d = .str wd) := fun σ B7 h7 => ev_any (ed_var h7 (.str wd wl))
      have edc : ∀ (σ : L2.St) B7, σ[6]? = some (some (V.int c)) → EV (Fm.box p) (tVar 6) σ B7 (fun v B => ∃ d, Dd K B v d ∧ d = .int c) := fun σ B7 h7 => ev_any (ed_var h7 (.int c))
      refine qv_asg a7 (ev_tup3 (edk _ _ rfl) (edw _ _ rfl) (edc _ _ rfl)) fun vr B8 H8 e8 a8 hh8 => ?_
      obtain ⟨_, _, _, hvr, rfl, rfl, rfl⟩ := hh8
      refine ⟨fun σ' H'' => ∃ B9 r vr, σ' = [some (.ref p), some (.int (n : Nat)), some (.ref fa), some (.int (0 + (i : Nat))), some (.int k), some (.str wd), some (.int c), some vr] ∧ At (Fm.box p) (upd B' fa (.lst acc)) H' B9 H'' ∧ Dd K B9 vr r ∧ RG n r, ?_, ?_⟩
      · refine sv_if (b := inS wd WSH) a8 (et_cmp (inSL (ed_var rfl (.str wd wl)) pyStr2)) (fun hb1 B9 H9 e9 a9 => ?_) (fun hb1 B9 H9 e9 a9 => ?_)
        · refine sv_asg a9 (ev_tup3 (edk _ _ rfl) (edw _ _ rfl) (ev_any (ed_str (K := K) (x := "a")))) fun vr2 B10 H10 e10 a10 hh10 => ?_
          obtain ⟨_, _, _, hvr2, rfl, rfl, rfl⟩ := hh10
          exact ⟨B10, _, vr2, rfl, a10, hvr2, rg_word n8 k0 k1' (inS_iff.mp hb1) h8 (by decide +kernel)⟩
        · refine sv_if (b := inS wd TSH) a9 (et_cmp (inSL (ed_var rfl (.str wd wl)) pyStr)) (fun hb2 B10 H10 e10 a10 => ?_) (fun hb2 B10 H10 e10 a10 => ?_)
          · refine sv_asg (P := fun v B => ∃ d : Int, Dd K B v (.tuple [.int k, .str wd, .int c, .int d]) ∧ 0 ≤ d ∧ d < (n : Nat)) a10 (ev_op (P := DD K (.tuple [.int k, .str wd, .int c])) (ed_var (i := 7) rfl ((hvr.up e9).up e10)) (ev_tup1 (ev_up (i0 := 0) (i1 := 1) (i3 := 4) rfl rfl rfl n1 k0 (by decide) (by decide))) upc_dd ?_) fun vr2 B11 H11 e11 a11 ⟨d, hvr2, d0, d1⟩ => ?_
            · intro B10 e10 H10 u w10 j10 hu hhx Q q
              obtain ⟨_, hx, d, rfl, d0, d1⟩ := hhx
              exact rd_addT (F := Fm.box p) (K := K) (B := B10) (by show 4 ≤ 16777216; decide) B10 (Ex.refl B10) H10 u w10 j10 hu hx Q fun z B11 H11 s11 j11 g11 => q z B11 H11 s11 j11 ⟨d, g11, d0, d1⟩
            · exact ⟨B11, _, vr2, rfl, a11, hvr2, rg_two n8 k0 k1' (inS_iff.mp hb2) h8 c0 c1 d0 d1⟩
          · refine ⟨B10, _, vr, rfl, a10, (hvr.up e9).up e10, rg_one n8 k0 k1' ?_ h8 c0 c1⟩
            rcases l8.2.2.1 with h | h | h
            · rw [inS_iff.mpr h] at hb1
              cases hb1
            · rw [inS_iff.mpr h] at hb2
              cases hb2
            · exact h
      · rintro σ' H'' ⟨B8, r, vr, rfl, a8, hr8, hRG⟩
        have hall : ∀ x ∈ rs ++ [r], ruleD x n = true := fun x hx => by
          rcases List.mem_append.mp hx with h | h
          · exact G.ruleD x h
          · rw [List.mem_singleton.mp h]
            exact hRG.1
        have hlen : (rs ++ [r]).length ≤ 100 := by rw [List.length_append]; show rs.length + 1 ≤ 100; omega
        refine sv_if (b := isNon (optD (backK (edges (rs ++ [r])) n))) a8 (et_cmp (ed_op (ed_F (eds_cons (ed_F (z := .list ((edges (rs ++ [r])).map toD)) (eds_cons (ed_op (ed_var (i := 2) rfl (dx.up a8.st.bb)) (ed_lst (eds_cons (ed_var (i := 7) rfl hr8) eds_nil)) (rd_addL (by show rs.length + 1 ≤ 16777216; omega))) eds_nil) ⟨_, rs ++ [r], n, rfl, .inl rfl, hlen, hall⟩ rfl) (eds_cons (ed_var (i := 1) rfl (.int (n : Nat))) eds_nil)) ⟨edges (rs ++ [r]), n, rfl, Nat.le_trans (edges_len _) hlen, by omega⟩ (by show optD (backK (((edges (rs ++ [r])).map toD).map ofD) ((n : Int)).toNat) = _; rw [ofD_toD]; rfl)) ed_non rd_isN)) (fun hbn B9 H9 e9 a9 => ?_) (fun hbn B9 H9 e9 a9 => ?_)
        · obtain ⟨s10, k10, e10, hd10⟩ := cq_close hfa k3 s' hb hd a9.st a9.j
          obtain ⟨xs, rfl, hfl⟩ := hRG.flat
          have hB9 : B9 fa = some (.lst acc) := a9.st.bb _ _ upd_same
          refine ⟨.ref fa, rfl, .inl ⟨rfl, _, sq_of hd10⟩, vr, rfl, fa, acc, vr, rfl, rfl, hd10, by rw [ha.len, sizeLine_eq]; omega, ?_⟩
          refine ⟨⟨_, _, _, _, _, rfl⟩, rs ++ [.tuple xs], by rw [List.length_append]; show rs.length + 1 ≤ i + 1; omega, G.snoc1 hlt hRG ?_, cq_set hfa k3 s10 k10 del1_same ((ha.up e10).snoc (tup_del (hr8.up e9) hB9 hfl))⟩
          cases hh : backK (edges (rs ++ [.tuple xs])) n with
          | none => rfl
          | some b => rw [hh] at hbn; cases hbn
        · obtain ⟨s10, k10, e10, hd10⟩ := cq_close hfa k3 s' hb hd a9.st a9.j
          exact ⟨⟨_, _, _, _, _, rfl⟩, rs, by omega, G, _, acc, s10, k10, del1_same, hd10, ha.up e10⟩
    subst ho
    obtain ⟨B5, s5, k5, g5⟩ := cq_done k3 hfa (by have := G.len; omega) c
    have hsm : SeqAt.shaped (.list rs) = true := Sm.sh (sm_lst (n := 2) fun d hd => smD_sm 1 d (G.ok d hd).2)
    have a5 : At (Fm.box p) B H B5 H' := ⟨a3.st.trans s5, k5⟩
    have tl : EV (Fm.box p) (tIf (tTest (tOp (rNeD K) (tVar 2) (tLst tNil))) (tCB (fun xs H Q => ∃ p ys, xs = [.ref p] ∧ ((SqL K H p ys ∧ ∀ l, H l = none → Q (.ref l) (upd H l (.tup ys))) ∨ (SqT K H p ys ∧ Q (.ref p) H))) (tCons (tVar 2) tNil)) (tTup (tCons (tTup (tCons (tC (.int 0)) (tCons (tC (.str "left")) (tCons (tC (.str "a")) tNil)))) tNil))) [some (.ref p), some (.int (n : Nat)), some (.ref fa), o3, o4, o5, o6, o7] B5 (fun v B => ∃ rs', Dd K B v (.tuple rs') ∧ (rs' ≠ [] ∧ GR n rs')) := ev_if (b := !rs.isEmpty) (et_is (et_cmp (ed_op (ed_var (i := 2) rfl g5) (ed_lst eds_nil) (rd_neD hsm rfl))) (by rw [eqv_nil])) (fun hb => EV.imp (ev_cb (eds_cons (ed_var (i := 2) rfl g5) eds_nil) rc_tupL) fun v _ _ gv => ⟨rs, gv, (fun z => by rw [z] at hb; cases hb), G⟩) (fun hb => EV.imp (ed_tup (K := K) (ds := [.tuple [.int 0, .str "left", .str "a"]]) (eds_cons (ed_tup (eds_cons ed_int (eds_cons ed_str (eds_cons ed_str eds_nil)))) eds_nil)) fun v _ _ gv => ⟨_, gv, (fun z => nomatch z), ?_⟩)
    · refine sv_ret (P := fun v B => ∃ rs', Dd K B v (.tuple [.int (n : Nat), .tuple rs']) ∧ (rs' ≠ [] ∧ GR n rs')) a5 (EV.imp (ev_tup2 (K := K) (Pa := fun d => d = .int (n : Nat)) (Pb := fun d => ∃ rs', d = .tuple rs' ∧ (rs' ≠ [] ∧ GR n rs')) (ev_any (ed_var (i := 1) rfl (.int (n : Nat)))) (EV.imp tl fun v _ _ ⟨rs', gv, h⟩ => ⟨_, gv, rs', rfl, h⟩)) fun v _ _ ⟨_, _, gv, ex, rs', ey, h⟩ => by
        subst ex ey
        exact ⟨rs', gv, h⟩) fun v6 B6 H6 e6 a6 ⟨rs', h6, hne, hG⟩ => q v6 B6 H6 n rs' a6.st a6.j h6 n1 n8 hne hG
    · have hRG : RG n (.tuple [.int 0, .str "left", .str "a"]) := rg_word n8 (by decide) (by omega) (by decide +kernel) (by decide +kernel) (by decide +kernel)
      have G0 : GR n [] := ⟨by decide, fun r h => (nomatch h), backK_none fun k hk => by
        cases hh : (Gm.turns (edges []) (k : Int) (n + 1)).contains (k : Int) with
        | false => rfl
        | true =>
          have h1 := Gm.turns_sound _ _ (List.contains_iff_mem.mp hh)
          cases h1 with
          | one e => cases e
          | more _ e => cases e⟩
      exact G0.snoc0 (by decide) hRG rfl

end
end K33

namespace K33
open PySem PySem.Spec PyProof.Rows L2 Evl Ex Dx StX
open PySem.PyData (strOk)
section
variable {P : Program} {w : World} {K : PySem.W.Frag} {mg : Str → Option Value} {base : Heap} {f : Addr} {fd : FuncData}


/-! ### steps_from -/
/-- the steps from the rules of kind k, by number and side; m: how many rules have been looked at -/
def sfL (rs : List PyData) (L : List Int) (k : Int) (m : Nat) : List (Int × Int) := (List.range m).flatMap fun i => if (hdI (rs.getD i .none) == k && livB L (rs.getD i .none)) = true then (List.range (prtL (rs.getD i .none)).length).map fun s : Nat => ((i : Int), (s : Int)) else []
theorem sfL_succ (rs : List PyData) (L : List Int) (k : Int) (m : Nat) : sfL rs L k (m + 1) = sfL rs L k m ++ (if (hdI (rs.getD m .none) == k && livB L (rs.getD m .none)) = true then (List.range (prtL (rs.getD m .none)).length).map fun s : Nat => ((m : Int), (s : Int)) else []) := by
  unfold sfL
  rw [List.range_succ, List.flatMap_append, List.flatMap_cons, List.flatMap_nil, List.append_nil]
theorem sfL_len {n : Nat} {rs : List PyData} {L : List Int} {k : Int} (h : ∀ r ∈ rs, RF n r) : ∀ m, m ≤ rs.length → (sfL rs L k m).length ≤ 2 * m
  | 0, _ => Nat.le_refl _
  | m + 1, hm => by
    have ih := sfL_len (L := L) (k := k) h m (by omega)
    rw [sfL_succ, List.length_append]
    split
    · have hr : rs.getD m .none ∈ rs := by
        rw [List.getD_eq_getElem?_getD, List.getElem?_eq_getElem (show m < rs.length by omega)]
        exact List.getElem_mem _
      have := (h _ hr).parts.1
      rw [List.length_map, List.length_range]
      omega
    · rw [List.length_nil]
      omega
theorem sfL_st {rs : List PyData} {L : List Int} {k : Int} {a b : Int} : ∀ {m}, m ≤ rs.length → (a, b) ∈ sfL rs L k m → StI rs a b ∧ livB L (rlA rs a) = true ∧ hdI (rlA rs a) = k := fun {m} hm h => by
  unfold sfL at h
  obtain ⟨i, hi, h2⟩ := List.mem_flatMap.mp h
  have hi2 := List.mem_range.mp hi
  split at h2
  · rename_i hc
    obtain ⟨s, hs, e⟩ := List.mem_map.mp h2
    have hs2 := List.mem_range.mp hs
    cases e
    rw [Bool.and_eq_true, beq_iff_eq] at hc
    have er : rlA rs ((i : Nat) : Int) = rs.getD i .none := rfl
    exact ⟨⟨⟨by omega, by omega⟩, by omega, by rw [er]; omega⟩, by rw [er]; exact hc.2, by rw [er]; exact hc.1⟩
  · cases h2
variable {c0 c1 c2 CP : Addr}
def spSF (K : PySem.W.Frag) (CP : Addr) : Sp := fun vs H Q _ => ∃ (B : Hp) (vp vl : V) (n : Nat) (rs : List PyData) (L : List Int) (k : Int), vs = [vp, vl, .int k] ∧ Ex B H ∧ InsP K CP (.int (n : Nat)) (.tuple rs) vp B ∧ Gs n rs ∧ Dd K B vl (.list (L.map .int)) ∧ L.length ≤ 100 ∧ ∀ v' B' H', Step (fun _ => False) B H B' H' → Dd K B' v' (.list ((sfL rs L k rs.length).map toD)) → Q v' H'
theorem ws_extL {F : Fm} {B0 H0 B H : Hp} {na : Addr} {L : List (Addr × HO)} {xs : List V} {σ : L2.St} {i : Nat} {te : TE} {ds : List PyData} {D : Ends} (w : Ow F B0 H0 B H ((na, .lst xs) :: L)) (hi : σ[i]? = some (some (.ref na))) (h : ED F K te σ B (.list ds)) (hl : xs.length + ds.length ≤ 1000) (q : ∀ vs B5 H5, Ow F B0 H0 B5 H5 ((na, .lst (xs ++ vs)) :: L) → Ex B B5 → DdAll K B5 vs ds → D.nx σ H5) : tDrop (tBM K "list" rExtend (tVar i) (tCons te tNil)) D σ H := by
  refine ⟨.ref na, hi, .inl ⟨rfl, _, sq_of w.here⟩, h B (Ex.refl B) H w.k _ fun v B5 H5 s5 k5 g => ?_⟩
  obtain ⟨a, zs, rfl, h1, _, g1⟩ := dd_lst g
  have w5 := w.pass s5 k5
  exact ⟨na, a, xs, zs, rfl, rfl, w5.here, k5.e _ _ h1, by rw [g1.len, sizeLine_eq]; omega, q zs B5 _ (w5.set _ trivial) s5.bb g1⟩

abbrev s_steps_from : Stmt := topS 40
abbrev N_steps_from : List Str := ["pairs", "live", "kind", "steps", "number", "rule", "side"]
theorem sc_steps_from : FnScope N_steps_from ["pairs", "live", "kind"] (defScope s_steps_from) := ⟨rfl, rfl, rfl, by decide +kernel, rfl, by decide +kernel, by decide +kernel⟩
theorem ok_steps_from (F : Fun K "steps_from" "steps_from" s_steps_from f fd) (T : TP P w K mg base c0 c1 c2 CP) (m_enumerate : mg "enumerate" = none) (C_part_kinds : Callee P w K mg base "part_kinds" 1 ["rule"] (spF K preRF fPts)) (C_is_live : Callee P w K mg base "is_live" 2 ["rule", "live"] (spF K preLive fLive)) : FnOk P w K mg base CX0 3 f fd ["pairs", "live", "kind"] (spSF K CP) := by
  refine F.ok sc_steps_from (fun vs H Q E h => ?_) (fun cdv A outer s H vs Q E hr h => ?_)
  · obtain ⟨B, vp, vl, n, rs, L, k, rfl, _⟩ := h
    rfl
  · obtain ⟨B, vp, vl, n, rs, L, k, rfl, e, hp, g, hl, hL, q⟩ := h
    have hu64 : (A.deeper (envOfC "steps_from" (defScope s_steps_from) s.heap.objs.size f cdv)).units + 64 < cLine := hr.units
    refine ⟨_, (pss_cons (ps_set (i := 3) sc_steps_from.nd rfl (Or.inl rfl) (pe_lst pa_nil))
      (pss_cons (ps_for PassesOwn.never rfl (pi_enumTK K rfl m_enumerate (pa_cons (pe_fldK K (pv 0)) pa_nil)) (pg_tupK K (n := 2) rfl (pgs_cons (pg_name (i := 4) sc_steps_from.nd rfl (Or.inr rfl)) (pgs_cons (pg_name (i := 5) sc_steps_from.nd rfl (Or.inl rfl)) pgs_nil))) (pss_one (ps_if (PW.pt (pw_and (pt_cmpR (op_eqDK K hu64) (pe_ix (ix_seqK K) (pv 5) pe_int (fun _ _ => rfl)) (pv 2) (nomark _)) (pw_and1 (pt_val (pe_callC C_is_live (hr.mono (by decide)) rfl pass0 (pa_cons (pv 5) (pa_cons (pv 1) pa_nil))))))) (pss_one (ps_expr (pe_bm PySem.F.plainAttrs_list PySem.F.slot_list_extend PySem.F.type_list_extend mt_extend (pv 3) (pa_cons (pe_lc (own := [("side", 6)]) rfl sc_steps_from.nd (pi_range1 rfl T.m_range (pa_cons (pe_callB (call_lenK K) (by rfl) T.m_len bt_len (pa_cons (pe_callC C_part_kinds (hr.mono (by decide)) rfl pass0 (pa_cons (pv 5) pa_nil)) pa_nil)) pa_nil)) (blkOk_by (own := [("side", 6)]) (N := N_steps_from) (sc := defScope s_steps_from) (by decide +kernel)) (fun _ _ _ _ _ => pg_name (i := 6) sc_steps_from.nd rfl (Or.inl rfl)) (fun _ _ _ _ _ => pts_nil) (fun _ _ _ _ _ => (pe_tup (pa_cons (pv 4) (pa_cons (pv 6) pa_nil))))) pa_nil)))) pss_nil)))
      (pss_one (ps_ret (pv 3))))), ?_⟩
    have l9 := g.l9
    refine wq_lst (i := 3) (ow_nil (F := Fm.pure) (Ok.any e)) fun na w1 => ?_
    refine os_forE (K := K) (F := Fm.pure) (ds := rs) (i0 := 4) (j0 := 5) (te := tFld K (tVar 0) "rules") w1.k (ev_rules T (i := 0) rfl hp) (fun i σ' B' H' => (∃ o4 o5, σ' = [some vp, some vl, some (.int k), some (.ref na), o4, o5, none]) ∧ Ex B B' ∧ ∃ xs, Ow Fm.pure B H B' H' [(na, .lst xs)] ∧ DdAll K B' xs ((sfL rs L k i).map toD) ∧ i ≤ rs.length) (fun i σ' B' H' ⟨_, _, _, w', _⟩ => w'.k) (fun i σ' B' H' B5 H5 ⟨h1, h2, xs, w', h3, h4⟩ s5 k5 => ⟨h1, h2.trans s5.bb, xs, w'.pass s5 k5, h3.up s5.bb, h4⟩)
      (fun B2 H2 s2 k2 => ⟨⟨_, _, rfl⟩, s2.bb, [], w1.pass s2 k2, .nil, Nat.zero_le _⟩) (fun Bb i r v σ' B2 H2 hri eb e2 hv hj => ?_) (fun σ' B2 H2 e2 hj => ?_)
    · obtain ⟨⟨o4, o5, rfl⟩, eB, xs, w2, gx, _⟩ := hj
      have hri2 := (List.getElem?_eq_some_iff.mp hri).1
      have hrf := g.rf r (List.mem_of_getElem? hri)
      have hpl := hrf.parts.1
      have er : rs.getD i .none = r := by rw [List.getD_eq_getElem?_getD, hri]; rfl
      have hsl := sfL_len (L := L) (k := k) g.rf i (by omega)
      have hl2 := hl.up eB
      refine ws_if w2 (b := (hdI r == k) && livB L r) (et_and (et_is (et_cmp (ed_op (ed_hd (i := 5) rfl hv hrf) (ed_var (i := 2) rfl (.int k)) (rd_eqD rfl rfl))) (eqv_int _ _)) fun _ => et_val (ed_F (eds_cons (ed_var (i := 5) rfl hv) (eds_cons (ed_var (i := 1) rfl hl2) eds_nil)) ⟨r, n, L, rfl, hrf, hL⟩ (by show PyData.bool (livB ((L.map PyData.int).map numI) r) = _; rw [numI_map]))) (fun hb B3 H3 w3 e3 => ?_) (fun hb B3 H3 w3 e3 => ?_)
      · refine ws_extL (K := K) (ds := ((List.range (prtL r).length).map fun s : Nat => ((i : Int), (s : Int))).map toD) w3 (i := 3) rfl (ed_is (ed_lcR (K := K) (n := (((prtL r).length : Nat) : Int)) (fun _ => true) (fun s : Nat => .tuple [.int (i : Int), .int (s : Int)]) (eds_cons (ed_is (ev_cb (eds_cons (ed_F (eds_cons (ed_var (i := 5) rfl (hv.up e3)) eds_nil) ⟨r, n, rfl, hrf⟩ rfl) eds_nil) (rc_len rfl)) (by show PyData.int ((((prtL r).map PyData.int).length : Nat) : Int) = .int (((prtL r).length : Nat) : Int); rw [List.length_map])) eds_nil) ⟨by omega, by omega⟩ (fun _ => rfl) (fun s B4 hs e4 => et_yes) (fun s B4 hs _ e4 => ed_tup (eds_cons (ed_var (i := 4) rfl (.int (i : Int))) (eds_cons (ed_var (i := 6) rfl (.int (s : Int))) eds_nil)))) (by rw [List.filter_eq_self.mpr (fun _ _ => rfl), List.map_map]; rfl)) (by rw [gx.len, List.length_map, List.length_map, List.length_map, List.length_range]; omega) fun zs B4 H4 w4 e4 gz => ?_
        refine ⟨B4, e2.trans (e3.trans e4), ⟨_, _, rfl⟩, eB.trans (e3.trans e4), _, w4, ?_, by omega⟩
        rw [sfL_succ, er, if_pos hb, List.map_append]
        exact (gx.up (e3.trans e4)).app gz
      · refine ⟨B3, e2.trans e3, ⟨_, _, rfl⟩, eB.trans e3, xs, w3, ?_, by omega⟩
        rw [sfL_succ, er, if_neg (by rw [hb]; decide), List.append_nil]
        exact gx.up e3
    · obtain ⟨⟨o4, o5, rfl⟩, eB, xs, w2, gx, _⟩ := hj
      have hsl := sfL_len (L := L) (k := k) g.rf rs.length (Nat.le_refl _)
      obtain ⟨w3, e3, d3⟩ := w2.dropL gx (by rw [List.length_map]; omega)
      exact ws_ret w3 (ed_var (i := 3) rfl d3) fun v4 B4 H4 w4 e4 g4 => q _ B4 H4 w4.st g4

end
end K33

namespace K33
open PySem PySem.Spec PyProof.Rows L2 Evl Ex Dx StX
open PySem.PyData (strOk)
section
variable {P : Program} {w : World} {K : PySem.W.Frag} {mg : Str → Option Value} {base : Heap} {f : Addr} {fd : FuncData}

abbrev s_Undefined_init : Stmt := inClass (topS 10) 0
abbrev N_Undefined_init : List Str := ["self", "what"]
theorem sc_Undefined_init : FnScope N_Undefined_init ["self", "what"] (defScope s_Undefined_init) := ⟨rfl, rfl, rfl, by decide +kernel, rfl, by decide +kernel, by decide +kernel⟩
theorem ok_Undefined {fI G C : Addr} {mc : Value} (F : Fun K "__init__" "Undefined.__init__" s_Undefined_init fI fd) (hg : mg "GraftError" = some (.ref G)) (rd : ClX.CRead K G mc) (gi : PySem.W.findCls K (.ref G) mc "__init__" = some (.val (.builtin "ValueError.__init__"))) (oc : OexC K C) (no : PySem.W.findIn K (.ref C) "what" = some none) :
    FnOk P w K mg base CX0 1 fI fd ["self", "what"] (spInit C "what") := by
  refine F.ok sc_Undefined_init (fun vs H Q E h => ?_) (fun cdv A outer s H vs Q E hr h => ?_)
  · obtain ⟨a, v, rfl, _⟩ := h
    rfl
  · obtain ⟨a, v, rfl, ha, k⟩ := h
    refine ⟨_, (pss_cons (ps_expr (pe_ginit rd gi rfl hg (pa_cons (pv 0) (pa_cons pe_str pa_nil))))
      (pss_one (ps_ost (pv 0) (pv 1)))), ?_⟩
    refine ⟨.ref a, rfl, a, C, _, rfl, (by show 1 ≤ 1000; decide), oc, ha, ?_⟩
    exact ⟨v, rfl, .ref a, rfl, a, C, rfl, oc, no, .inl ⟨ha, fun dx hdx hne => k dx hdx hne⟩⟩
end
end K33

namespace K33
open PySem PySem.Spec PyProof.Rows L2 Evl Ex Dx StX
open PySem.PyData (strOk)
section
variable {P : Program} {w : World} {K : PySem.W.Frag} {mg : Str → Option Value} {base : Heap} {f : Addr} {fd : FuncData}


/-! ### longest -/
structure TU (P : Program) (w : World) (K : PySem.W.Frag) (mg : Str → Option Value) (base : Heap) (c0 c1 c2 CP cU : Addr) : Prop extends TP P w K mg base c0 c1 c2 CP where
  x_Undefined : ExcAt P w K mg base "Undefined" "what" cU
  mU : PySem.W.exmOne K (.ref cU) (.ref cU) = some true
variable {c0 c1 c2 CP cU : Addr}
def lgD (x : Int → Int) : PyData := if x 0 = -2 then .none else .int (x 0)
def spLg (K : PySem.W.Frag) (CP cU : Addr) : Sp := fun vs H Q E => ∃ (B : Hp) (vp : V) (n : Nat) (rs : List PyData), vs = [vp] ∧ Ex B H ∧ InsP K CP (.int (n : Nat)) (.tuple rs) vp B ∧ Gs n rs ∧
  (∀ (x : Int → Int) v' B' H', Step (fun _ => False) B H B' H' → LenS n rs x → x 0 ≠ -1 → Dd K B' v' (lgD x) → Q v' H') ∧
  (∀ (x : Int → Int) v' dd B' H1 H', Step (fun _ => False) B H B' H1 → LenS n rs x → x 0 = -1 → Dd K B' v' (.str "text") → Ex H1 H' → H' dd = some (.xd [("what", v')]) → E (.ref cU) (some dd) H')
theorem ev_len0 {F : Fm} {σ : L2.St} {B : Hp} {i : Nat} {vp : V} {n : Nat} {rs : List PyData} (hi : σ[i]? = some (some vp)) (hp : InsP K CP (.int (n : Nat)) (.tuple rs) vp B) (g : Gs n rs) : EV F (tOp (rIx K) (tCall (spLen K CP) [] E0 (tCons (tVar i) tNil)) (tC (.int 0))) σ B (fun v _ => ∃ x, LenS n rs x ∧ v = .int (x 0)) :=
  ev_op (P := fun v B => ∃ x, LenS n rs x ∧ Dd K B v (.tuple ((List.range n).map fun k : Nat => .int (x k)))) (P' := DD K (.int 0)) (fun B1 e1 H1 j1 Q1 q1 => ⟨vp, hi, B1, vp, n, rs, rfl, j1.e, upc_ins _ _ _ e1 hp, g, fun v' B' H' x s hx h => q1 v' B' H' s.pure (j1.pure s) ⟨x, hx, h⟩⟩) ed_int (fun _ _ _ e ⟨x, hx, h⟩ => ⟨x, hx, h.up e⟩) fun B3 e3 H3 u v j3 ⟨x, hx, hu⟩ hv Q3 q3 => rd_ixT (F := F) (K := K) (B := B3) (i := 0) (d := .int (x 0)) (atI_nat (j := 0) (by rw [List.getElem?_map, List.getElem?_range g.n1]; rfl)) B3 (Ex.refl B3) H3 u v j3 hu hv Q3 fun w B' H' s jj gw => q3 w B' H' s jj ⟨x, hx, dd_int gw⟩

abbrev s_longest : Stmt := topS 37
abbrev N_longest : List Str := ["pairs", "told"]
theorem sc_longest : FnScope N_longest ["pairs"] (defScope s_longest) := ⟨rfl, rfl, rfl, by decide +kernel, rfl, by decide +kernel, by decide +kernel⟩
theorem ok_longest (F : Fun K "longest" "longest" s_longest f fd) (T : TU P w K mg base c0 c1 c2 CP cU) (C_lengths : Callee P w K mg base "lengths" 5 ["pairs"] (spLen K CP)) : FnOk P w K mg base (L2.CX P w) 6 f fd ["pairs"] (spLg K CP cU) := by
  refine F.okX sc_longest (fun vs H Q E h => ?_) (fun cdv A outer s H vs Q E hr h => ?_)
  · obtain ⟨B, vp, n, rs, rfl, _⟩ := h
    rfl
  · obtain ⟨B, vp, n, rs, rfl, e, hp, g, q, qe⟩ := h
    have hu64 : (A.deeper (envOfC "longest" (defScope s_longest) s.heap.objs.size f cdv)).units + 64 < cLine := hr.units
    refine ⟨_, (pss_cons (ps_set (i := 1) sc_longest.nd rfl (Or.inl rfl) (pe_ix (ix_seqK K) (pe_callC C_lengths (hr.mono (by decide)) rfl pass0 (pa_cons (pv 0) pa_nil)) pe_int (fun _ _ => rfl)))
      (pss_cons (ps_if (pt_cmpR (op_eqDK K hu64) (pv 1) (pe_gint rfl T.c_NOT_LIVE) (nomark _)) (pss_one (ps_raise rfl (takes_of rfl rfl rfl rfl) (pmk_E T.x_Undefined (hr.mono (by decide)) rfl (pa_cons pe_str pa_nil)))) pss_nil)
      (pss_one (ps_ret (pe_ifExp (pt_cmpR (op_eqDK K hu64) (pv 1) (pe_gint rfl T.c_ENDLESS) (nomark _)) pe_non (pv 1)))))), ?_⟩
    have a : At Fm.pure B H B H := At.start (Ok.any e)
    refine qv_asg a (ev_len0 (i := 0) rfl hp g) fun v1 B1 H1 e1 a1 ⟨x, hx, ev⟩ => ?_
    subst ev
    refine qv_when (b := x 0 == -1) a1 (et_is (et_cmp (ed_op (ed_var (i := 1) rfl (.int (x 0))) (ed_int (K := K) (i := -1)) (rd_eqD rfl rfl))) (eqv_int _ _)) (fun hb B2 H2 e2 a2 => ?_) (fun hb B2 H2 e2 a2 => ?_)
    · exact mk_raise (P := DD K (.str "text")) a2.j ed_str fun v2 B3 H3 dd H' s3 k3 hv' hd e3 hxx => qe x v2 dd B3 H3 H' (a2.st.trans s3) hx (beq_iff_eq.mp hb) hv' e3 hxx
    · refine sv_ret (P := DD K (lgD x)) a2 (ev_if (b := x 0 == -2) (et_is (et_cmp (ed_op (ed_var (i := 1) rfl (.int (x 0))) (ed_int (K := K) (i := -2)) (rd_eqD rfl rfl))) (eqv_int _ _)) (fun h2 => ?_) (fun h2 => ?_)) fun v3 B3 H3 e3 a3 h3 => q x v3 B3 H3 a3.st hx (by simpa using hb) h3
      · unfold lgD
        rw [if_pos (beq_iff_eq.mp h2)]
        exact ed_non
      · unfold lgD
        rw [if_neg (by simpa using h2)]
        exact ed_var (i := 1) rfl (.int (x 0))

end
end K33

namespace K33
open PySem PySem.Spec PyProof.Rows L2 Evl Ex Dx StX
open PySem.PyData (strOk)
section
variable {P : Program} {w : World} {K : PySem.W.Frag} {mg : Str → Option Value} {base : Heap} {f : Addr} {fd : FuncData}


/-! ### way_back: which way it is -/
abbrev Way := List (Int × Int)
structure WS where
  hit : Option Way
  S : List Int
  Q : List (Int × Way)
/-- the steps from one kind, the way to it given -/
def wkF (rs : List PyData) (kind : Int) (way : Way) : List (Int × Int) → List Int → List (Int × Way) → WS
  | [], S, Q => ⟨none, S, Q⟩
  | st :: rest, S, Q => if ptA rs st.1 st.2 = kind then ⟨some (way ++ [st]), S, Q⟩ else if S.contains (ptA rs st.1 st.2) = true then wkF rs kind way rest S Q else wkF rs kind way rest (S ++ [ptA rs st.1 st.2]) (Q ++ [(ptA rs st.1 st.2, way ++ [st])])
inductive WRun (rs : List PyData) (L : List Int) (kind : Int) : List Int → List (Int × Way) → Way → Prop
  | hit {S : List Int} {Q : List (Int × Way)} {k : Int} {way R : Way} (h : (wkF rs kind way (sfL rs L k rs.length) S Q).hit = some R) : WRun rs L kind S ((k, way) :: Q) R
  | go {S : List Int} {Q : List (Int × Way)} {k : Int} {way R : Way} (h : (wkF rs kind way (sfL rs L k rs.length) S Q).hit = none) (t : WRun rs L kind (wkF rs kind way (sfL rs L k rs.length) S Q).S (wkF rs kind way (sfL rs L k rs.length) S Q).Q R) : WRun rs L kind S ((k, way) :: Q) R
theorem WRun.uniq {rs : List PyData} {L : List Int} {kind : Int} {S : List Int} {Q : List (Int × Way)} {R R' : Way} (h : WRun rs L kind S Q R) : WRun rs L kind S Q R' → R = R' := by
  induction h with
  | hit h =>
    intro g
    cases g with
    | hit g => exact Option.some.inj (h.symm.trans g)
    | go g _ => rw [h] at g; cases g
  | go h _ ih =>
    intro g
    cases g with
    | hit g => rw [h] at g; cases g
    | go _ t => exact ih t

end
end K33

namespace K33
open PySem PySem.Spec PyProof.Rows L2 Evl Ex Dx StX
open PySem.PyData (strOk)
section
variable {P : Program} {w : World} {K : PySem.W.Frag} {mg : Str → Option Value} {base : Heap} {f : Addr} {fd : FuncData}


/-! ### ways -/
def endW (rs : List PyData) (k : Int) (way : Way) : Int := match way.getLast? with
  | some s => ptA rs s.1 s.2
  | none => k
theorem endW_nil {rs : List PyData} {k : Int} : endW rs k [] = k := rfl
theorem endW_snoc {rs : List PyData} {k : Int} {way : Way} {s : Int × Int} : endW rs k (way ++ [s]) = ptA rs s.1 s.2 := by
  unfold endW
  rw [List.getLast?_concat]
structure Wy (rs : List PyData) (L : List Int) (k : Int) (way : Way) (a : Int) : Prop where
  st : ∀ s ∈ way, StI rs s.1 s.2 ∧ livB L (rlA rs s.1) = true
  ch : ∀ i s, way[i]? = some s → hdI (rlA rs s.1) = endW rs k (way.take i)
  en : a = endW rs k way
theorem Wy.nil {rs : List PyData} {L : List Int} {k : Int} : Wy rs L k [] k := ⟨fun s h => (nomatch h), fun i s h => by simp at h, rfl⟩
theorem Wy.snoc {rs : List PyData} {L : List Int} {k a : Int} {way : Way} {s : Int × Int} (h : Wy rs L k way a) (hs : s ∈ sfL rs L a rs.length) : Wy rs L k (way ++ [s]) (ptA rs s.1 s.2) := by
  obtain ⟨h1, h2, h3⟩ := sfL_st (a := s.1) (b := s.2) (Nat.le_refl _) hs
  refine ⟨fun t ht => ?_, fun i t ht => ?_, endW_snoc.symm⟩
  · rcases List.mem_append.mp ht with ht | ht
    · exact h.st t ht
    · rw [List.mem_singleton.mp ht]
      exact ⟨h1, h2⟩
  · rcases Nat.lt_or_ge i way.length with hi | hi
    · rw [List.getElem?_append_left hi] at ht
      rw [List.take_append_of_le_length (by omega)]
      exact h.ch i t ht
    · rw [List.getElem?_append_right hi] at ht
      have e : i - way.length = 0 := by
        have := (List.getElem?_eq_some_iff.mp ht).1
        rw [List.length_singleton] at this
        omega
      rw [e] at ht
      have et : s = t := by simpa using ht
      subst et
      have ei : i = way.length := by omega
      subst ei
      rw [List.take_left']
      · rw [h3]; exact h.en
      · rfl
theorem Wy.loop {n : Nat} {rs : List PyData} {k : Int} {R : Way} (h : Wy rs (liveL rs n) k R k) (hu : usB n rs k = true) (h1 : R ≠ []) (h2 : R.length ≤ 90) : loopB n rs (.tuple (R.map toD)) = true := by
  have hl : 1 ≤ R.length := List.length_pos_iff.mpr h1
  have gd : ∀ i s, R[i]? = some s → (R.map toD).getD i .none = toD s := fun i s hs => by
    rw [List.getD_eq_getElem?_getD, List.getElem?_map, hs]
    rfl
  show ((decide ((1 : Int) ≤ ((R.map toD).length : Nat)) && decide ((((R.map toD).length : Nat) : Int) ≤ 90)) && ((R.map toD).all (stpB rs (liveL rs n)) && (usB n rs (hk rs ((R.map toD).getD 0 .none)) && chB rs (R.map toD)))) = true
  have hln : (R.map toD).length = R.length := List.length_map _
  rw [Bool.and_eq_true, Bool.and_eq_true, Bool.and_eq_true, Bool.and_eq_true, decide_eq_true_eq, decide_eq_true_eq, List.all_eq_true]
  refine ⟨⟨by omega, by omega⟩, fun d hd => ?_, ?_, ?_⟩
  · obtain ⟨s, hs, rfl⟩ := List.mem_map.mp hd
    obtain ⟨⟨⟨a0, a1⟩, b0, b1⟩, hv⟩ := h.st s hs
    show stpB rs (liveL rs n) (.tuple [.int s.1, .int s.2]) = true
    rw [stp_two, Bool.and_eq_true, Bool.and_eq_true]
    exact ⟨inB_int ⟨a0, by omega⟩, inB_int ⟨b0, by omega⟩, hv⟩
  · obtain ⟨s, hs⟩ : ∃ s, R[0]? = some s := ⟨R[0], List.getElem?_eq_getElem (by omega)⟩
    rw [gd 0 s hs]
    have := h.ch 0 s hs
    rw [List.take_zero, endW_nil] at this
    show usB n rs (hdI (rlA rs s.1)) = true
    rw [this]
    exact hu
  · unfold chB
    rw [List.all_eq_true]
    intro i hi
    have hi2 : i < R.length := by have := List.mem_range.mp hi; omega
    obtain ⟨s, hs⟩ : ∃ s, R[i]? = some s := ⟨R[i], List.getElem?_eq_getElem hi2⟩
    have hp := prev_lt (n := R.length) hi2
    obtain ⟨t, ht⟩ : ∃ t, R[prevI R.length i]? = some t := ⟨R[prevI R.length i], List.getElem?_eq_getElem hp⟩
    rw [hln, gd i s hs, gd _ t ht, beq_iff_eq]
    show ptA rs t.1 t.2 = hdI (rlA rs s.1)
    rw [h.ch i s hs]
    unfold prevI at ht
    split at ht
    · rename_i e
      subst e
      rw [List.take_zero, endW_nil]
      have en := h.en
      unfold endW at en
      rw [List.getLast?_eq_getElem?, ht] at en
      exact en.symm
    · rename_i e
      obtain ⟨j, rfl⟩ : ∃ j, i = j + 1 := ⟨i - 1, by omega⟩
      rw [Nat.add_sub_cancel] at ht
      obtain ⟨hj, rfl⟩ := List.getElem?_eq_some_iff.mp ht
      rw [List.take_succ_eq_append_getElem hj, endW_snoc]
/-- steps and edges -/
theorem sfL_edge {n : Nat} {rs : List PyData} {L : List Int} {a b : Int} (h : ∀ r ∈ rs, RF n r) : (a, b) ∈ lsE rs L ↔ ∃ s ∈ sfL rs L a rs.length, ptA rs s.1 s.2 = b := by
  constructor
  · intro hm
    obtain ⟨r, hr, ha, hb⟩ := stE_mem.mp hm
    obtain ⟨hr1, hr2⟩ := List.mem_filter.mp hr
    obtain ⟨i, hi⟩ := List.getElem?_of_mem hr1
    obtain ⟨j, hj⟩ := List.getElem?_of_mem hb
    have hil := (List.getElem?_eq_some_iff.mp hi).1
    have hjl := (List.getElem?_eq_some_iff.mp hj).1
    have er : rs.getD i .none = r := by rw [List.getD_eq_getElem?_getD, hi]; rfl
    refine ⟨((i : Int), (j : Int)), List.mem_flatMap.mpr ⟨i, List.mem_range.mpr hil, ?_⟩, ?_⟩
    · rw [er, if_pos (by rw [Bool.and_eq_true, beq_iff_eq]; exact ⟨ha, hr2⟩)]
      exact List.mem_map.mpr ⟨j, List.mem_range.mpr hjl, rfl⟩
    · show (prtL (rs.getD i .none)).getD j 0 = b
      rw [er, List.getD_eq_getElem?_getD, hj]
      rfl
  · rintro ⟨s, hs, rfl⟩
    obtain ⟨⟨ha, hb⟩, h2, h3⟩ := sfL_st (a := s.1) (b := s.2) (Nat.le_refl _) hs
    exact stE_mem.mpr ⟨rlA rs s.1, List.mem_filter.mpr ⟨(rlA_at ha).2, h2⟩, h3, (ptA_at hb).2⟩
/-! ### what the walk keeps -/
section
variable {n : Nat} {rs : List PyData} {kind a : Int} {S : List Int} {Q : List (Int × Way)} {way : Way} {rest : List (Int × Int)} {s : Int × Int}
structure WI (n : Nat) (rs : List PyData) (kind : Int) (S : List Int) (Q : List (Int × Way)) : Prop where
  run : ∀ R, WRun rs (liveL rs n) kind S Q R → WRun rs (liveL rs n) kind [] [(kind, [])] R
  lv : LV n S
  nk : kind ∉ S
  wy : ∀ p ∈ Q, Wy rs (liveL rs n) kind p.2 p.1 ∧ p.2.length ≤ S.length
  cl : ∀ a b, (a, b) ∈ lE n rs → (a = kind ∨ a ∈ S) → b ∈ S ∨ ∃ w, (a, w) ∈ Q
structure WJ (n : Nat) (rs : List PyData) (kind a : Int) (way : Way) (rest : List (Int × Int)) (S : List Int) (Q : List (Int × Way)) : Prop where
  run : ∀ R, ((wkF rs kind way rest S Q).hit = some R ∨ ((wkF rs kind way rest S Q).hit = none ∧ WRun rs (liveL rs n) kind (wkF rs kind way rest S Q).S (wkF rs kind way rest S Q).Q R)) → WRun rs (liveL rs n) kind [] [(kind, [])] R
  lv : LV n S
  nk : kind ∉ S
  wy : ∀ p ∈ Q, Wy rs (liveL rs n) kind p.2 p.1 ∧ p.2.length ≤ S.length
  at_ : Wy rs (liveL rs n) kind way a
  al : way.length ≤ S.length
  sub : ∀ s ∈ rest, s ∈ sfL rs (liveL rs n) a rs.length
  cl : ∀ x b, (x, b) ∈ lE n rs → (x = kind ∨ x ∈ S) → b ∈ S ∨ (∃ w, (x, w) ∈ Q) ∨ (x = a ∧ ∃ s ∈ rest, ptA rs s.1 s.2 = b)
theorem WI.start : WI n rs kind [] [(kind, [])] := ⟨fun _ h => h, lv_nil, fun h => (nomatch h), fun p hp => by
  rw [List.mem_singleton.mp hp]
  exact ⟨Wy.nil, Nat.le_refl _⟩, fun a b _ h => .inr (by
  rcases h with rfl | h
  · exact ⟨[], List.mem_singleton.mpr rfl⟩
  · cases h)⟩
theorem WI.more (g : Gs n rs) (h : WI n rs kind S Q) (hk : Gm.Rch (lE n rs) kind kind) : ∃ p Q', Q = p :: Q' := by
  cases Q with
  | cons p Q' => exact ⟨p, Q', rfl⟩
  | nil =>
    exact absurd (Gm.closed_rch (fun a b hE ha => by
      rcases h.cl a b hE ha with h1 | ⟨_, h1⟩
      · exact h1
      · cases h1) hk) h.nk
theorem WI.pop (g : Gs n rs) (h : WI n rs kind S ((a, way) :: Q)) : WJ n rs kind a way (sfL rs (liveL rs n) a rs.length) S Q :=
  ⟨fun R hR => h.run R (by
    rcases hR with hR | ⟨h1, h2⟩
    · exact .hit hR
    · exact .go h1 h2), h.lv, h.nk, fun p hp => h.wy p (List.mem_cons_of_mem _ hp), (h.wy _ List.mem_cons_self).1, (h.wy _ List.mem_cons_self).2, fun _ hs => hs, fun x b hE hx => by
    rcases h.cl x b hE hx with h1 | ⟨w, h1⟩
    · exact .inl h1
    · rcases List.mem_cons.mp h1 with h2 | h2
      · cases h2
        exact .inr (.inr ⟨rfl, (sfL_edge g.rf).mp hE⟩)
      · exact .inr (.inl ⟨w, h2⟩)⟩
theorem wk_hit (hs : ptA rs s.1 s.2 = kind) : (wkF rs kind way (s :: rest) S Q).hit = some (way ++ [s]) := by
  show (if ptA rs s.1 s.2 = kind then (⟨some (way ++ [s]), S, Q⟩ : WS) else _).hit = _
  rw [if_pos hs]
theorem wk_skip (hs : ptA rs s.1 s.2 ≠ kind) (hc : ptA rs s.1 s.2 ∈ S) : wkF rs kind way (s :: rest) S Q = wkF rs kind way rest S Q := by
  show (if ptA rs s.1 s.2 = kind then (⟨some (way ++ [s]), S, Q⟩ : WS) else if S.contains (ptA rs s.1 s.2) = true then wkF rs kind way rest S Q else _) = _
  rw [if_neg hs, if_pos (List.contains_iff_mem.mpr hc)]
theorem wk_add (hs : ptA rs s.1 s.2 ≠ kind) (hc : ptA rs s.1 s.2 ∉ S) : wkF rs kind way (s :: rest) S Q = wkF rs kind way rest (S ++ [ptA rs s.1 s.2]) (Q ++ [(ptA rs s.1 s.2, way ++ [s])]) := by
  show (if ptA rs s.1 s.2 = kind then (⟨some (way ++ [s]), S, Q⟩ : WS) else if S.contains (ptA rs s.1 s.2) = true then wkF rs kind way rest S Q else wkF rs kind way rest (S ++ [ptA rs s.1 s.2]) (Q ++ [(ptA rs s.1 s.2, way ++ [s])])) = _
  rw [if_neg hs, if_neg fun z => hc (List.contains_iff_mem.mp z)]
theorem WJ.hit (h : WJ n rs kind a way (s :: rest) S Q) (hs : ptA rs s.1 s.2 = kind) : WRun rs (liveL rs n) kind [] [(kind, [])] (way ++ [s]) ∧ Wy rs (liveL rs n) kind (way ++ [s]) kind ∧ (way ++ [s]).length ≤ n + 1 := by
  refine ⟨h.run _ (.inl (wk_hit hs)), ?_, ?_⟩
  · have := h.at_.snoc (h.sub s List.mem_cons_self)
    rw [hs] at this
    exact this
  · rw [List.length_append, List.length_singleton]
    have := h.al
    have := h.lv.len
    omega
theorem WJ.skip (h : WJ n rs kind a way (s :: rest) S Q) (hs : ptA rs s.1 s.2 ≠ kind) (hc : ptA rs s.1 s.2 ∈ S) : WJ n rs kind a way rest S Q :=
  ⟨fun R hR => h.run R (by rw [wk_skip hs hc]; exact hR), h.lv, h.nk, h.wy, h.at_, h.al, fun t ht => h.sub t (List.mem_cons_of_mem _ ht), fun x b hE hx => by
    rcases h.cl x b hE hx with h1 | h1 | ⟨h1, t, ht, h2⟩
    · exact .inl h1
    · exact .inr (.inl h1)
    · rcases List.mem_cons.mp ht with rfl | h3
      · exact .inl (h2 ▸ hc)
      · exact .inr (.inr ⟨h1, t, h3, h2⟩)⟩
theorem WJ.add (g : Gs n rs) (h : WJ n rs kind a way (s :: rest) S Q) (hs : ptA rs s.1 s.2 ≠ kind) (hc : ptA rs s.1 s.2 ∉ S) : WJ n rs kind a way rest (S ++ [ptA rs s.1 s.2]) (Q ++ [(ptA rs s.1 s.2, way ++ [s])]) := by
  have hsub := h.sub s List.mem_cons_self
  have hE := (sfL_edge (n := n) (L := liveL rs n) g.rf).mpr ⟨s, hsub, rfl⟩
  have hrg := ((g.eg (liveL rs n)).rg _ _ hE).2
  refine ⟨fun R hR => h.run R (by rw [wk_add hs hc]; exact hR), ⟨?_, fun x hx => ?_⟩, fun hx => ?_, fun p hp => ?_, h.at_, ?_, fun t ht => h.sub t (List.mem_cons_of_mem _ ht), fun x b hxb hx => ?_⟩
  · rw [List.nodup_append]
    refine ⟨h.lv.nd, by simp, fun a ha b hb z => ?_⟩
    rw [List.mem_singleton.mp hb] at z
    exact hc (z ▸ ha)
  · rcases List.mem_append.mp hx with h1 | h1
    · exact h.lv.rg x h1
    · rw [List.mem_singleton.mp h1]
      exact hrg
  · rcases List.mem_append.mp hx with h1 | h1
    · exact h.nk h1
    · exact hs (List.mem_singleton.mp h1).symm
  · rw [List.length_append, List.length_singleton]
    rcases List.mem_append.mp hp with h1 | h1
    · have := h.wy p h1
      exact ⟨this.1, by omega⟩
    · rw [List.mem_singleton.mp h1]
      refine ⟨h.at_.snoc hsub, ?_⟩
      show (way ++ [s]).length ≤ _
      rw [List.length_append, List.length_singleton]
      have := h.al
      omega
  · rw [List.length_append, List.length_singleton]
    have := h.al
    omega
  · have old : (x = kind ∨ x ∈ S) → b ∈ S ++ [ptA rs s.1 s.2] ∨ (∃ w, (x, w) ∈ Q ++ [(ptA rs s.1 s.2, way ++ [s])]) ∨ (x = a ∧ ∃ t ∈ rest, ptA rs t.1 t.2 = b) := fun hx' => by
      rcases h.cl x b hxb hx' with h1 | ⟨w, h1⟩ | ⟨h1, t, ht, h2⟩
      · exact .inl (List.mem_append_left _ h1)
      · exact .inr (.inl ⟨w, List.mem_append_left _ h1⟩)
      · rcases List.mem_cons.mp ht with rfl | h3
        · exact .inl (List.mem_append_right _ (List.mem_singleton.mpr h2.symm))
        · exact .inr (.inr ⟨h1, t, h3, h2⟩)
    rcases hx with hx | hx
    · exact old (.inl hx)
    · rcases List.mem_append.mp hx with h1 | h1
      · exact old (.inr h1)
      · exact .inr (.inl ⟨way ++ [s], List.mem_append_right _ (List.mem_singleton.mpr (by rw [List.mem_singleton.mp h1]))⟩)
theorem WJ.done (h : WJ n rs kind a way [] S Q) : WI n rs kind S Q := ⟨fun R hR => h.run R (.inr ⟨rfl, hR⟩), h.lv, h.nk, h.wy, fun x b hE hx => by
  rcases h.cl x b hE hx with h1 | h1 | ⟨_, t, ht, _⟩
  · exact .inl h1
  · exact .inr h1
  · cases ht⟩
end

end
end K33

namespace K33
open PySem PySem.Spec PyProof.Rows L2 Evl Ex Dx StX
open PySem.PyData (strOk)
section
variable {P : Program} {w : World} {K : PySem.W.Frag} {mg : Str → Option Value} {base : Heap} {f : Addr} {fd : FuncData}


/-! ### way_back -/
theorem eds_star {F : Fm} {σ : L2.St} {B : Hp} {te : TE} {t : TA} {ds es : List PyData} (h : ED F K te σ B (.tuple ds)) (hs : ∀ B1, Ex B B1 → EDs F K t σ B1 es) : EDs F K (tStar K te t) σ B (ds ++ es) := fun B1 e0 H k Q q => h B1 e0 H k _ fun v B2 H2 s2 k2 g => by
  obtain ⟨a, xs, rfl, h1, _, g1⟩ := dd_tup g
  exact ⟨a, xs, rfl, .inl (ex_t k2.e h1), hs B2 (e0.trans s2.bb) B2 (Ex.refl B2) H2 k2 _ fun us B3 H3 s3 k3 gs => q _ B3 H3 (s2.trans s3) k3 ((g1.up s3.bb).app gs)⟩
/-- a list of one's own, with members -/
theorem wq_lstE {F : Fm} {B0 H0 B H : Hp} {L : List (Addr × HO)} {σ : L2.St} {i : Nat} {t : TA} {tz : L2.TS} {D : Ends} {ds : List PyData} (w : Ow F B0 H0 B H L) (h : EDs F K t σ B ds) (hl : ds.length ≤ 1000) (q : ∀ na vs B5 H5, Ow F B0 H0 B5 H5 ((na, .lst vs) :: L) → Ex B B5 → DdAll K B5 vs ds → tz D (σ.set i (some (.ref na))) H5) : tSeq (tAsg (tLst t) (gName i)) tz D σ H :=
  h B (Ex.refl B) H w.k _ fun vs B5 H5 s5 k5 g => ⟨by rw [g.len, sizeLine_eq]; omega, fun na hna => q na vs B5 _ ((w.pass s5 k5).new hna trivial) s5.bb g⟩
theorem wq_app {F : Fm} {B0 H0 B H : Hp} {L : List (Addr × HO)} {σ : L2.St} {i : Nat} {na : Addr} {xs : List V} {te : TE} {d : PyData} {tz : L2.TS} {D : Ends} (w : Ow F B0 H0 B H ((na, .lst xs) :: L)) (hi : σ[i]? = some (some (.ref na))) (h : ED F K te σ B d) (hl : xs.length < 16777216) (q : ∀ v B5 H5, Ow F B0 H0 B5 H5 ((na, .lst (xs ++ [v])) :: L) → Ex B B5 → Dd K B5 v d → tz D σ H5) : tSeq (tDrop (tBM K "list" rAppend (tVar i) (tCons te tNil))) tz D σ H := ws_app (D := { D with nx := tz D }) w hi h hl q
/-- u, v = own.pop(0) -/
theorem wq_pop0 {F : Fm} {B0 H0 B H : Hp} {na : Addr} {L : List (Addr × HO)} {xs : List V} {x0 : V} {σ : L2.St} {i p1 p2 : Nat} {x y : PyData} {tz : L2.TS} {D : Ends} (w : Ow F B0 H0 B H ((na, .lst (x0 :: xs)) :: L)) (hi : σ[i]? = some (some (.ref na))) (h : Dd K B x0 (.tuple [x, y])) (q : ∀ u v H5, Ow F B0 H0 B H5 ((na, .lst xs) :: L) → Dd K B u x → Dd K B v y → tz D ((σ.set p1 (some u)).set p2 (some v)) H5) : tSeq (tAsg (tBM K "list" rPopAt (tVar i) (tCons (tC (.int 0)) tNil)) (gTup K 2 (gCons (gName p1) (gCons (gName p2) gNil)))) tz D σ H := by
  have w1 := w.set (.lst xs) trivial
  obtain ⟨b, us, rfl, hb, _, hus⟩ := dd_tup h
  refine ⟨.ref na, hi, .inl ⟨rfl, _, sq_of w.here⟩, ?_⟩
  refine ⟨na, _, 0, 0, .ref b, rfl, rfl, w.here, by decide, by decide, ?_, rfl, ?_⟩
  · unfold seqIndex?
    simp
  · cases hus with
    | cons hu t =>
      cases t with
      | cons hv t =>
        cases t
        exact ⟨b, _, rfl, ex_t w1.k.e hb, rfl, _, _, rfl, _, _, rfl, rfl, q _ _ _ w1 hu hv⟩
def wD (p : Int × Way) : PyData := .tuple [.int p.1, .tuple (p.2.map toD)]
variable {c0 c1 c2 CP : Addr}
theorem ed_SF {F : Fm} {σ : L2.St} {B : Hp} {i j l : Nat} {vp vl : V} {n : Nat} {rs : List PyData} {L : List Int} {k : Int} (hi : σ[i]? = some (some vp)) (hj : σ[j]? = some (some vl)) (hl : σ[l]? = some (some (.int k))) (hp : InsP K CP (.int (n : Nat)) (.tuple rs) vp B) (g : Gs n rs) (hL : Dd K B vl (.list (L.map .int))) (hL2 : L.length ≤ 100) : ED F K (tCall (spSF K CP) [] E0 (tCons (tVar i) (tCons (tVar j) (tCons (tVar l) tNil)))) σ B (.list ((sfL rs L k rs.length).map toD)) := fun B1 e1 H1 j1 Q1 q1 =>
  ⟨vp, hi, vl, hj, .int k, hl, B1, vp, vl, n, rs, L, k, rfl, j1.e, upc_ins _ _ _ e1 hp, g, hL.up e1, hL2, fun v' B' H' s h => q1 _ B' H' s.pure (j1.pure s) h⟩
def spBack (K : PySem.W.Frag) (CP : Addr) : Sp := fun vs H Q _ => ∃ (B : Hp) (vp vl : V) (n : Nat) (rs : List PyData) (k : Int), vs = [vp, vl, .int k] ∧ Ex B H ∧ InsP K CP (.int (n : Nat)) (.tuple rs) vp B ∧ Gs n rs ∧ Dd K B vl (.list ((liveL rs n).map .int)) ∧ Gm.Rch (lE n rs) k k ∧ ∀ v' B' H' (R : Way), Step (fun _ => False) B H B' H' → WRun rs (liveL rs n) k [] [(k, [])] R → Wy rs (liveL rs n) k R k → R ≠ [] → R.length ≤ 9 → Dd K B' v' (.tuple (R.map toD)) → Q v' H'

abbrev s_way_back : Stmt := topS 39
abbrev N_way_back : List Str := ["pairs", "live", "kind", "reached", "ways", "at", "way", "step", "part"]
theorem sc_way_back : FnScope N_way_back ["pairs", "live", "kind"] (defScope s_way_back) := ⟨rfl, rfl, rfl, by decide +kernel, rfl, by decide +kernel, by decide +kernel⟩
theorem ok_way_back (F : Fun K "way_back" "way_back" s_way_back f fd) (T : TC K mg) (C_steps_from : Callee P w K mg base "steps_from" 3 ["pairs", "live", "kind"] (spSF K CP)) (C_part_behind : Callee P w K mg base "part_behind" 2 ["pairs", "step"] (spPB K CP)) : FnOk P w K mg base CX0 4 f fd ["pairs", "live", "kind"] (spBack K CP) := by
  refine F.ok sc_way_back (fun vs H Q E h => ?_) (fun cdv A outer s H vs Q E hr h => ?_)
  · obtain ⟨B, vp, vl, n, rs, k, rfl, _⟩ := h
    rfl
  · obtain ⟨B, vp, vl, n, rs, kind, rfl, e, hp, g, hl, hk, q⟩ := h
    have hu64 : (A.deeper (envOfC "way_back" (defScope s_way_back) s.heap.objs.size f cdv)).units + 64 < cLine := hr.units
    refine ⟨_, (pss_cons (ps_set (i := 3) sc_way_back.nd rfl (Or.inl rfl) (pe_lst pa_nil))
      (pss_cons (ps_set (i := 4) sc_way_back.nd rfl (Or.inl rfl) (pe_lst (pa_cons (pe_tup (pa_cons (pv 2) (pa_cons (pe_tup pa_nil) pa_nil))) pa_nil)))
      (pss_one (ps_while PassesOwn.never (pt_val pe_bl) (pss_cons (ps_asg (pe_bm PySem.F.plainAttrs_list PySem.F.slot_list_pop PySem.F.type_list_pop mt_popAt (pv 4) (pa_cons pe_int pa_nil)) (pg_tupK K (n := 2) rfl (pgs_cons (pg_name (i := 5) sc_way_back.nd rfl (Or.inl rfl)) (pgs_cons (pg_name (i := 6) sc_way_back.nd rfl (Or.inl rfl)) pgs_nil))))
      (pss_one (ps_for PassesOwn.never rfl (pi_seqK K (pe_callC C_steps_from (hr.mono (by decide)) rfl pass0 (pa_cons (pv 0) (pa_cons (pv 1) (pa_cons (pv 5) pa_nil))))) (pg_name (i := 7) sc_way_back.nd rfl (Or.inl rfl)) (pss_cons (ps_set (i := 8) sc_way_back.nd rfl (Or.inl rfl) (pe_callC C_part_behind (hr.mono (by decide)) rfl pass0 (pa_cons (pv 0) (pa_cons (pv 7) pa_nil))))
      (pss_cons (ps_if (pt_cmpR (op_eqDK K hu64) (pv 8) (pv 2) (nomark _)) (pss_one (ps_ret (pe_tup (pa_star (pv 6) (pa_cons (pv 7) pa_nil))))) pss_nil)
      (pss_one (ps_if (pt_cmpR (op_ninK K) (pv 8) (pv 3) (by rfl)) (pss_cons (ps_expr (pe_bm PySem.F.plainAttrs_list PySem.F.slot_list_append PySem.F.type_list_append mt_append (pv 3) (pa_cons (pv 8) pa_nil)))
      (pss_one (ps_expr (pe_bm PySem.F.plainAttrs_list PySem.F.slot_list_append PySem.F.type_list_append mt_append (pv 4) (pa_cons (pe_tup (pa_cons (pv 8) (pa_cons (pe_tup (pa_star (pv 6) (pa_cons (pv 7) pa_nil))) pa_nil))) pa_nil))))) pss_nil))))))))))), ?_⟩
    have n8 := g.n8
    have l9 := g.l9
    have hL8 := live_len g
    refine wq_lst (i := 3) (ow_nil (F := Fm.pure) (Ok.any e)) fun na w1 => ?_
    refine wq_lstE (K := K) (i := 4) w1 (eds_cons (ed_tup (eds_cons (ed_var (i := 2) rfl (.int kind)) (eds_cons (ed_tup eds_nil) eds_nil))) eds_nil) (by show 1 ≤ 1000; decide) fun wa xs0 B2 H2 w2 e2 g2 => ?_
    refine ⟨fun m σ' H' => ∃ o5 o6 o7 o8 S Q xs B', σ' = [some vp, some vl, some (.int kind), some (.ref na), some (.ref wa), o5, o6, o7, o8] ∧ Ex B B' ∧ Ow Fm.pure B H B' H' [(wa, .lst xs), (na, .lst (S.map V.int))] ∧ DdAll K B' xs (Q.map wD) ∧ WI n rs kind S Q ∧ (m = 2 * (n - S.length) + Q.length ∧ m ≤ 100), ⟨_, none, none, none, none, [], [(kind, [])], xs0, B2, rfl, e2, w2, g2, WI.start, rfl, by show 2 * (n - 0) + 1 ≤ 100; omega⟩, ?_⟩
    rintro m σ' H' ⟨o5, o6, o7, o8, S, Q, xs, B', rfl, eB, w, gx, I, rfl, hm0⟩
    refine ⟨true, rfl, ?_⟩
    dsimp only
    rw [if_pos rfl]
    refine ⟨_, fun σ2 H3 q => q, ?_⟩
    obtain ⟨⟨a, wy⟩, Q', rfl⟩ := I.more g hk
    cases gx with
    | cons gx0 gx' =>
    refine wq_pop0 (K := K) w (i := 4) (p1 := 5) (p2 := 6) rfl gx0 fun v5 v6 H3 w3 h5 h6 => ?_
    obtain rfl := dd_int h5
    have J0 := I.pop g
    have hsl := sfL_len (L := liveL rs n) (k := a) g.rf rs.length (Nat.le_refl _)
    refine os_forD (K := K) (F := Fm.pure) (ds := (sfL rs (liveL rs n) a rs.length).map toD) w3.k (ev_seqL (ed_SF (i := 0) (j := 1) (l := 5) rfl rfl rfl (upc_ins _ _ _ eB hp) g (hl.up eB) (by omega))) (fun i σ' B7 H7 => ∃ o7 o8 S1 Q1 xs1, σ' = [some vp, some vl, some (.int kind), some (.ref na), some (.ref wa), some (.int a), some v6, o7, o8] ∧ Ex B' B7 ∧ Ow Fm.pure B H B7 H7 [(wa, .lst xs1), (na, .lst (S1.map V.int))] ∧ DdAll K B7 xs1 (Q1.map wD) ∧ WJ n rs kind a wy ((sfL rs (liveL rs n) a rs.length).drop i) S1 Q1 ∧ 2 * (n - S1.length) + Q1.length < 2 * (n - S.length) + ((a, wy) :: Q').length) (fun i σ' B7 H7 ⟨_, _, _, _, _, _, _, w', _⟩ => w'.k.e)
      (fun B7 H7 s7 k7 => ⟨_, _, S, Q', _, rfl, s7.bb, w3.pass s7 k7, gx'.up s7.bb, J0, by rw [List.length_cons]; omega⟩) (fun Bb i d v σ' B7 H7 hdi eb e7 hv hj => ?_) (fun σ' B7 H7 e7 hj => ?_)
    · obtain ⟨o7, o8, S1, Q1, xs1, rfl, eB7, w7, gx7, J7, hm7⟩ := hj
      obtain ⟨s, hs, rfl⟩ : ∃ s, (sfL rs (liveL rs n) a rs.length)[i]? = some s ∧ toD s = d := by
        rw [List.getElem?_map] at hdi
        cases hh : (sfL rs (liveL rs n) a rs.length)[i]? with
        | none => rw [hh] at hdi; cases hdi
        | some s => rw [hh] at hdi; exact ⟨s, rfl, by simpa using hdi⟩
      have hdrop : (sfL rs (liveL rs n) a rs.length).drop i = s :: (sfL rs (liveL rs n) a rs.length).drop (i + 1) := by
        obtain ⟨hlt, he⟩ := List.getElem?_eq_some_iff.mp hs
        rw [List.drop_eq_getElem_cons hlt, he]
      rw [hdrop] at J7
      obtain ⟨si, _, _⟩ := sfL_st (a := s.1) (b := s.2) (Nat.le_refl _) (List.mem_of_getElem? hs)
      have hS1 := J7.lv.len
      have hal := J7.al
      dsimp only [gName]
      refine wq_asg (i := 8) (P := DD K (.int (ptA rs s.1 s.2))) w7 (ed_PB (i := 0) rfl (upc_ins _ _ _ (eB.trans eB7) hp) g (ed_var (i := 7) rfl hv) si) fun v8 B8 H8 w8 e8 h8 => ?_
      obtain rfl := dd_int h8
      have h6u := h6.up (eB7.trans e8)
      have hvu := hv.up e8
      have et : ∀ {F : Fm} {B9 : Hp}, Ex B8 B9 → EDs F K (tStar K (tVar 6) (tCons (tVar 7) tNil)) [some vp, some vl, some (.int kind), some (.ref na), some (.ref wa), some (.int a), some v6, some v, some (.int (ptA rs s.1 s.2))] B9 (wy.map toD ++ [toD s]) := fun e9 => eds_star (ed_var (i := 6) rfl (h6u.up e9)) fun B10 e10 => eds_cons (ed_var (i := 7) rfl (hvu.up (e9.trans e10))) eds_nil
      have eap : wy.map toD ++ [toD s] = (wy ++ [s]).map toD := by rw [List.map_append]; rfl
      refine wq_when w8 (b := ptA rs s.1 s.2 == kind) (et_is (et_cmp (ed_op (ed_var (i := 8) rfl (.int _)) (ed_var (i := 2) rfl (.int kind)) (rd_eqD rfl rfl))) (eqv_int _ _)) (fun hb B9 H9 w9 e9 => ?_) (fun hb B9 H9 w9 e9 => ?_)
      · obtain ⟨r1, r2, r3⟩ := J7.hit (beq_iff_eq.mp hb)
        refine ws_ret (P := DD K (.tuple ((wy ++ [s]).map toD))) w9 (ed_is (ed_tup (et e9) (by rw [eap, List.length_map]; omega)) (by rw [eap])) fun v10 B10 H10 w10 e10 h10 => ?_
        exact q v10 B10 H10 (wy ++ [s]) w10.st r1 r2 (by simp) (by omega) h10
      · have hne : ptA rs s.1 s.2 ≠ kind := by simpa using hb
        have w9s := w9.swap
        refine wl_if w9s (b := !S1.contains (ptA rs s.1 s.2)) (et_is (et_cmp (ed_op (ed_var (i := 8) rfl (.int _)) (ed_var (i := 3) rfl (own_ints w9s (by omega))) (rd_notin (.inl rfl) rfl (flatI _)))) (congrArg Bool.not (inD_int _ _))) (fun hc H10 w10 => ?_) (fun hc H10 w10 => ?_)
        · have hnc : ptA rs s.1 s.2 ∉ S1 := fun z => by rw [List.contains_iff_mem.mpr z] at hc; cases hc
          have J8 := J7.add g hne hnc
          have hS8 := J8.lv.len
          rw [List.length_append, List.length_singleton] at hS8
          refine wq_app w10 (i := 3) rfl (ed_var (i := 8) rfl (.int (ptA rs s.1 s.2))) (by rw [List.length_map]; omega) fun v11 B11 H11 w11 e11 h11 => ?_
          obtain rfl := dd_int h11
          refine ws_app w11.swap (i := 4) rfl (ed_tup (eds_cons (ed_var (i := 8) rfl (.int (ptA rs s.1 s.2))) (eds_cons (ed_is (ed_tup (et (e9.trans e11)) (by rw [eap, List.length_map, List.length_append, List.length_singleton]; omega)) (by rw [eap])) eds_nil))) (by rw [gx7.len, List.length_map]; omega) fun v12 B12 H12 w12 e12 h12 => ?_
          have e712 := ((e8.trans e9).trans e11).trans e12
          refine ⟨B12, e7.trans e712, _, _, S1 ++ [ptA rs s.1 s.2], Q1 ++ [(ptA rs s.1 s.2, wy ++ [s])], xs1 ++ [v12], rfl, eB7.trans e712, ?_, ?_, J8, ?_⟩
          · rw [List.map_append]
            exact w12
          · rw [List.map_append]
            exact (gx7.up e712).snoc h12
          · rw [List.length_append, List.length_append, List.length_singleton, List.length_singleton]
            omega
        · have hcc : ptA rs s.1 s.2 ∈ S1 := List.contains_iff_mem.mp (by simpa using hc)
          have e79 := e8.trans e9
          exact ⟨B9, e7.trans e79, _, _, S1, Q1, xs1, rfl, eB7.trans e79, w10.swap, gx7.up e79, J7.skip hne hcc, hm7⟩
    · obtain ⟨o7, o8, S1, Q1, xs1, rfl, eB7, w7, gx7, J7, hm7⟩ := hj
      rw [List.length_map, List.drop_length] at J7
      exact ⟨_, hm7, _, _, _, _, S1, Q1, xs1, B7, rfl, eB.trans eB7, w7, gx7, J7.done, rfl, by omega⟩

end
end K33

namespace K33
open PySem PySem.Spec PyProof.Rows L2 Evl Ex Dx StX
open PySem.PyData (strOk)
section
variable {P : Program} {w : World} {K : PySem.W.Frag} {mg : Str → Option Value} {base : Heap} {f : Addr} {fd : FuncData}


/-! ### loop -/
section
variable {n : Nat} {rs : List PyData} {x : Int → Int}
theorem LenS.pos (g : Gs n rs) (hx : LenS n rs x) : ∀ k, bnd n rs k → 1 ≤ x k := by
  obtain ⟨O, tp, hO⟩ := topo_ex (bE_acy g) fun a b h => ((bE_eg g).rg a b h).2
  have go : ∀ i, ∀ k ∈ O.take i, bnd n rs k → 1 ≤ x k := fun i => by
    induction i with
    | zero => exact fun k hk => by rw [List.take_zero] at hk; cases hk
    | succ i ih =>
      intro k hk hb
      by_cases hi : i < O.length
      · rw [List.take_succ_eq_append_getElem hi] at hk
        rcases List.mem_append.mp hk with hk | hk
        · exact ih k hk hb
        · have hki : O[i]? = some k := by rw [List.getElem?_eq_getElem hi, List.mem_singleton.mp hk]
          obtain ⟨⟨r, hr, he, h1⟩, _⟩ := hx.top k hb
          have : ∀ p ∈ prtL r, 1 ≤ x p := fun p hp => ih p (tp.ord i k hki p (he ▸ bnd_edge g hr (he ▸ hb) hp)) (bnd_part g hr (he ▸ hb) hp)
          have := sz_pos this
          omega
      · rw [List.take_of_length_le (by omega)] at hk
        exact ih k (by rw [List.take_of_length_le (by omega)]; exact hk) hb
  exact fun k hb => go n k (by rw [← hO, List.take_length]; exact lv_all tp.lv (by omega) hb.1) hb
theorem LenS.wide2 (g : Gs n rs) (hx : LenS n rs x) (h : x 0 = -2) : ∃ j, (j = 0 ∨ Gm.Rch (lE n rs) 0 j) ∧ Gm.Rch (lE n rs) j j := by
  have h0 : (0 : Int) ≤ 0 ∧ (0 : Int) < (n : Int) := ⟨Int.le_refl 0, by have := g.n1; omega⟩
  by_cases hl : (0 : Int) ∈ liveL rs n
  · cases hw : wdB (lE n rs) n 0 with
    | true => exact (wd_iff (g.eg _)).mp hw
    | false =>
      have := hx.pos g 0 ⟨h0, hl, hw⟩
      omega
  · have := hx.dead 0 h0 hl
    omega
end
theorem KBs.uniq {E : List (Int × Int)} {k : Int} {S S' : List Int} (h : KBs E k S) (h' : KBs E k S') : S = S' := h.run.uniq h'.run
/-- what loop answers -/
def Lp (n : Nat) (rs : List PyData) (d : PyData) : Prop := ∃ (S : List Int) (k : Int) (R : Way), KBs (lE n rs) 0 S ∧ ((0 :: S).filter fun j => rchB (lE n rs) n j j).head? = some k ∧ WRun rs (liveL rs n) k [] [(k, [])] R ∧ d = .tuple (R.map toD)
theorem Lp.uniq {n : Nat} {rs : List PyData} {d d' : PyData} (h : Lp n rs d) (h' : Lp n rs d') : d = d' := by
  obtain ⟨S, k, R, h1, h2, h3, rfl⟩ := h
  obtain ⟨S', k', R', h1', h2', h3', rfl⟩ := h'
  cases h1.uniq h1'
  rw [h2] at h2'
  cases h2'
  rw [h3.uniq h3']
structure LpG (n : Nat) (rs : List PyData) (d : PyData) : Prop where
  lp : Lp n rs d
  ok : loopB n rs d = true
  ex : ∃ R : Way, d = .tuple (R.map toD) ∧ R.length ≤ 9 ∧ ∀ s ∈ R, StI rs s.1 s.2
variable {c0 c1 c2 CP cU : Addr}
def spLp (K : PySem.W.Frag) (CP cU : Addr) : Sp := fun vs H Q E => ∃ (B : Hp) (vp : V) (n : Nat) (rs : List PyData), vs = [vp] ∧ Ex B H ∧ InsP K CP (.int (n : Nat)) (.tuple rs) vp B ∧ Gs n rs ∧
  (∀ (x : Int → Int) d v' B' H', Step (fun _ => False) B H B' H' → LenS n rs x → x 0 = -2 → LpG n rs d → Dd K B' v' d → Q v' H') ∧
  (∀ (x : Int → Int) v' dd B' H1 H', Step (fun _ => False) B H B' H1 → LenS n rs x → x 0 ≠ -2 → Dd K B' v' (.str "loop") → Ex H1 H' → H' dd = some (.xd [("what", v')]) → E (.ref cU) (some dd) H')
theorem ev_lcXL {F : Fm} {σ : L2.St} {B : Hp} {tl te : TE} {tt : TT} {j : Nat} {vsN : List Nat} {R : List PyData → Prop} {Z : PV} (h : EV F tl σ B (fun v B => ∃ ds, R ds ∧ Dd K B v (.list ds)))
    (hq : ∀ ds v B1, R ds → Ex B B1 → Dd K B1 v (.list ds) → EV F (tLc (iSeq K (tC v)) (gName j) tt te vsN) σ B1 Z) : EV F (tLc (iSeq K tl) (gName j) tt te vsN) σ B Z := fun B1 e1 H1 j1 Q q =>
  h B1 e1 H1 j1 _ fun v B2 H2 s2 j2 ⟨ds, r, g⟩ => hq ds v B2 r (e1.trans s2.bb) g B2 (Ex.refl B2) H2 j2 Q fun w B3 H3 s3 j3 z => q w B3 H3 (s2.trans s3) j3 z
theorem ev_ku {F : Fm} {σ : L2.St} {B : Hp} {te : TE} {n : Nat} {E : List (Int × Int)} (h : ED F K te σ B (adjD E n)) (g : Eg n E) : EV F (tCall (spKU K) [] E0 (tCons te tNil)) σ B (fun v B => ∃ ds, (∃ S, KBs E 0 S ∧ ds = (0 :: S).map PyData.int) ∧ Dd K B v (.list ds)) := fun B1 e1 H1 j1 Q1 q1 => h B1 e1 H1 j1 _ fun v B2 H2 s2 j2 gv => ⟨B2, v, n, E, rfl, j2.e, gv, g, fun v' B' H' S s hS gd => q1 v' B' H' (s2.trans s.pure) (j2.pure s) ⟨_, ⟨S, hS, rfl⟩, gd⟩⟩

abbrev s_loop : Stmt := topS 38
abbrev N_loop : List Str := ["pairs", "live", "steps", "looping", "kind"]
theorem sc_loop : FnScope N_loop ["pairs"] (defScope s_loop) := ⟨rfl, rfl, rfl, by decide +kernel, rfl, by decide +kernel, by decide +kernel⟩
theorem ok_loop (F : Fun K "loop" "loop" s_loop f fd) (T : TU P w K mg base c0 c1 c2 CP cU) (C_lengths : Callee P w K mg base "lengths" 5 ["pairs"] (spLen K CP)) (C_live_kinds : Callee P w K mg base "live_kinds" 3 ["pairs"] (spIns K CP fLvK)) (C_live_steps : Callee P w K mg base "live_steps" 4 ["pairs", "live"] (spLS K CP)) (C_kinds_behind : Callee P w K mg base "kinds_behind" 1 ["steps", "kind"] (spKB K)) (C_kinds_in_use : Callee P w K mg base "kinds_in_use" 2 ["steps"] (spKU K)) (C_way_back : Callee P w K mg base "way_back" 4 ["pairs", "live", "kind"] (spBack K CP)) : FnOk P w K mg base (L2.CX P w) 6 f fd ["pairs"] (spLp K CP cU) := by
  refine F.okX sc_loop (fun vs H Q E h => ?_) (fun cdv A outer s H vs Q E hr h => ?_)
  · obtain ⟨B, vp, n, rs, rfl, _⟩ := h
    rfl
  · obtain ⟨B, vp, n, rs, rfl, e, hp, g, q, qe⟩ := h
    have hu64 : (A.deeper (envOfC "loop" (defScope s_loop) s.heap.objs.size f cdv)).units + 64 < cLine := hr.units
    refine ⟨_, (pss_cons (ps_if (pt_cmpR (op_neDK K hu64) (pe_ix (ix_seqK K) (pe_callC C_lengths (hr.mono (by decide)) rfl pass0 (pa_cons (pv 0) pa_nil)) pe_int (fun _ _ => rfl)) (pe_gint rfl T.c_ENDLESS) (nomark _)) (pss_one (ps_raise rfl (takes_of rfl rfl rfl rfl) (pmk_E T.x_Undefined (hr.mono (by decide)) rfl (pa_cons pe_str pa_nil)))) pss_nil)
      (pss_cons (ps_set (i := 1) sc_loop.nd rfl (Or.inl rfl) (pe_callC C_live_kinds (hr.mono (by decide)) rfl pass0 (pa_cons (pv 0) pa_nil)))
      (pss_cons (ps_set (i := 2) sc_loop.nd rfl (Or.inr rfl) (pe_callC C_live_steps (hr.mono (by decide)) rfl pass0 (pa_cons (pv 0) (pa_cons (pv 1) pa_nil))))
      (pss_cons (ps_setLc (i := 3) (own := [("kind", 4)]) rfl sc_loop.nd rfl rfl (sw_true rfl rfl rfl (by decide +kernel)) (pi_seqK K (pe_callC C_kinds_in_use (hr.mono (by decide)) rfl pass0 (pa_cons (pv 2) pa_nil))) (blkOk_by (own := [("kind", 4)]) (N := N_loop) (sc := defScope s_loop) (by decide +kernel)) (fun _ _ _ _ _ => pg_name (i := 4) sc_loop.nd rfl (Or.inl rfl)) (fun _ _ _ _ _ => (pts_one (pt_cmpR (op_inK K) (pv 4) (pe_callC C_kinds_behind (hr.mono (by decide)) rfl pass0 (pa_cons (pv 2) (pa_cons (pv 4) pa_nil))) (by rfl)))) (fun _ _ _ _ _ => (pv 4)))
      (pss_one (ps_ret (pe_callC C_way_back (hr.mono (by decide)) rfl pass0 (pa_cons (pv 0) (pa_cons (pv 1) (pa_cons (pe_ix (ix_seqK K) (pv 3) pe_int (fun _ _ => rfl)) pa_nil)))))))))), ?_⟩
    have a : At Fm.pure B H B H := At.start (Ok.any e)
    have eg := g.eg (liveL rs n)
    have hLl := live_len g
    have n8 := g.n8
    have tst : EV Fm.pure (tOp (rNeD K) (tOp (rIx K) (tCall (spLen K CP) [] E0 (tCons (tVar 0) tNil)) (tC (.int 0))) (tC (.int (-2)))) [some vp, none, none, none, none] B (fun v _ => ∃ x, LenS n rs x ∧ v = .bl (!(x 0 == -2))) := ev_op (P := fun v _ => ∃ x, LenS n rs x ∧ v = .int (x 0)) (P' := DD K (.int (-2))) (ev_len0 (i := 0) rfl hp g) (ed_int (i := -2)) (fun _ _ _ _ h => h) fun B3 e3 H3 u v j3 ⟨x, hx, hu⟩ hv Q3 q3 => by
      subst hu
      exact rd_neD (F := Fm.pure) (K := K) (B := B3) (x := .int (x 0)) (y := .int (-2)) rfl rfl B3 (Ex.refl B3) H3 _ v j3 (.int _) hv Q3 fun w B' H' s jj gw => q3 w B' H' s jj ⟨x, hx, by rw [dd_bl gw, eqv_int]⟩
    refine tst B (Ex.refl B) H a.j _ fun v0 B1 H1 s1 j1 ⟨x, hx, ev⟩ => ?_
    subst ev
    refine ⟨_, rfl, ?_⟩
    have a1 := a.next s1 j1
    have e1 := s1.bb
    by_cases h2 : x 0 = -2
    · have hb : (!(x 0 == -2)) = false := by rw [h2]; rfl
      rw [hb]
      show tNext _ _ _
      dsimp only [tNext]
      have hp := upc_ins _ _ _ e1 hp
      refine qv_asg (P := DD K (.list ((liveL rs n).map .int))) a1 (ed_Ins (fn := fLvK) (i := 0) rfl hp g) fun vl B2 H2 e2 a2 hl => ?_
      have hp := upc_ins _ _ _ e2 hp
      refine qv_asg a2 (ed_LS (i := 0) (j := 1) rfl rfl hp g hl (by omega)) fun vs B3 H3 e3 a3 hs => ?_
      have hp := upc_ins _ _ _ e3 hp
      have hl := hl.up e3
      refine qv_asg (P := fun v B => ∃ S, KBs (lE n rs) 0 S ∧ Dd K B v (.list (((0 :: S).filter fun j => rchB (lE n rs) n j j).map .int))) a3 (ev_lcXL (ev_ku (ed_var (i := 2) rfl hs) eg) fun ds v B4 ⟨S, hS, eds⟩ e4 gd => EV.imp (ed_is (ed_lcD (K := K) (ds := ds) (fun d => rchB (lE n rs) n (numI d) (numI d)) (fun d => d) (ev_seqL (ed_v gd)) (by have := hS.len; rw [eds, List.length_map]; show S.length + 1 ≤ _; omega) (fun _ => rfl) (fun d u B8 hm e8 hu => ?_) (fun d u B8 hm _ e8 hu => ed_var (i := 4) rfl hu)) (by
        rw [eds, List.filter_map, List.map_map]
        rfl)) fun v _ _ gv => ⟨S, hS, gv⟩) fun vk B4 H4 e4 a4 ⟨S, hS, hk⟩ => ?_
      · rw [eds] at hm
        obtain ⟨z, hz, rfl⟩ := List.mem_map.mp hm
        have hz2 : 0 ≤ z ∧ z < (n : Int) := by
          rcases List.mem_cons.mp hz with rfl | hz
          · have := g.n1
            omega
          · exact rch_in eg ((hS.m z).mp hz)
        have en : ((z.toNat : Nat) : Int) = z := by omega
        have hu' : Dd K B8 u (.int ((z.toNat : Nat) : Int)) := by rw [en]; exact hu
        refine et_is (et_cmp (ed_inKB (i := 2) (k := z.toNat) (j := z) rfl (hs.up (e4.trans e8)) (ed_var (i := 4) rfl hu') (ed_var (i := 4) rfl hu) eg (by omega))) ?_
        rw [en]
        rfl
      have hp := upc_ins _ _ _ e4 hp
      have hl := hl.up e4
      obtain ⟨k, hkh⟩ : ∃ k, ((0 :: S).filter fun j => rchB (lE n rs) n j j).head? = some k := by
        obtain ⟨j, hj, hjj⟩ := hx.wide2 g h2
        have hm : j ∈ ((0 :: S).filter fun j => rchB (lE n rs) n j j) := List.mem_filter.mpr ⟨by
          rcases hj with rfl | hj
          · exact List.mem_cons_self
          · exact List.mem_cons_of_mem _ ((hS.m j).mpr hj), (rch_iff eg).mpr hjj⟩
        cases hh : ((0 :: S).filter fun j => rchB (lE n rs) n j j) with
        | nil => rw [hh] at hm; cases hm
        | cons k l => exact ⟨k, rfl⟩
      have hkm := List.mem_filter.mp (List.mem_of_mem_head? hkh)
      have hkk := (rch_iff eg).mp hkm.2
      have hku : usB n rs k = true := by
        unfold usB
        rcases List.mem_cons.mp hkm.1 with rfl | h
        · rfl
        · rw [Bool.or_eq_true]
          exact .inr ((rch_iff eg).mpr ((hS.m k).mp h))
      have hat : atI (((0 :: S).filter fun j => rchB (lE n rs) n j j).map PyData.int) 0 = some (.int k) := by
        refine atI_nat (j := 0) ?_
        rw [List.getElem?_map, ← List.head?_eq_getElem?, hkh]
        rfl
      have wb : EV Fm.pure (tCall (spBack K CP) [] E0 (tCons (tVar 0) (tCons (tVar 1) (tCons (tOp (rIx K) (tVar 3) (tC (.int 0))) tNil)))) [some vp, some vl, some vs, some vk, none] B4 (fun v B => ∃ d, LpG n rs d ∧ Dd K B v d) := fun B5 e5 H5 j5 Q5 q5 => ⟨vp, rfl, vl, rfl, ed_op (K := K) (ed_var (i := 3) rfl hk) (ed_int (i := 0)) (rd_ixL hat) B5 e5 H5 j5 _ fun v6 B6 H6 s6 j6 h6 => ⟨B6, vp, vl, n, rs, k, by rw [dd_int h6]; rfl, j6.e, upc_ins _ _ _ (e5.trans s6.bb) hp, g, hl.up (e5.trans s6.bb), hkk, fun v' B' H' R s hR hW hne hR9 gv => q5 v' B' H' (s6.trans s.pure) (j6.pure s) ⟨_, ⟨⟨S, k, R, hS, hkh, hR, rfl⟩, hW.loop hku hne (by omega), R, rfl, hR9, fun s hs => (hW.st s hs).1⟩, gv⟩⟩⟩
      refine sv_ret a4 wb fun v5 B5 H5 e5 a5 ⟨d, hd, g5⟩ => q x d v5 B5 H5 a5.st hx h2 hd g5
    · have hb : (!(x 0 == -2)) = true := by rw [beq_eq_false_iff_ne.mpr h2]; rfl
      rw [hb]
      exact mk_raise (P := DD K (.str "loop")) a1.j ed_str fun v2 B3 H3 dd H' s3 k3 hv' hd e3 hxx => qe x v2 dd B3 H3 H' (a1.st.trans s3) hx h2 hv' e3 hxx

end
end K33

namespace K33
open PySem PySem.Spec PyProof.Rows L2 Evl Ex Dx StX
open PySem.PyData (strOk)
section
variable {P : Program} {w : World} {K : PySem.W.Frag} {mg : Str → Option Value} {base : Heap} {f : Addr} {fd : FuncData}


/-! ### _law_told -/
structure CalleeX (P : Program) (w : World) (K : PySem.W.Frag) (mg : Str → Option Value) (base : Heap) (x : Str) (k : Nat) (ps : List Str) (sp : Sp) : Prop where
  ex : ∃ f fd, FnOk P w K mg base (L2.CX P w) k f fd ps sp ∧ mg x = some (.ref f) ∧ PySem.W.keepIn K (.ref f) = true ∧ L2.Binds K fd ps []
theorem pe_callX {X : Cx} {x : Str} {k : Nat} {ps : List Str} {sp : Sp} {E : L2.St → XK} {e : Expr} {es : List Expr} {t : TA} {p pos : Pos} (C : CalleeX X.prog X.w X.K X.mg X.base x k ps sp) (hr : Room k X.A) (hg : Gl X x) (hx : ∀ σ, PassesAt (L2.CX X.prog X.w) X σ (E σ)) (ha : PA X (e :: es) t) (hdb : (x == ("__debug__" : Str)) = false := by decide)
    (he : starEach (e :: es) X.env = (false, eval e X.env) :: starEach es X.env := by rfl) (hpl : (backTo pos (starEach es X.env)).any (·.1) = false := by rfl) : PE X (.Call (.Name x p) (e :: es) [] pos) (tCallS sp E t) := by
  obtain ⟨f, fd, F, hm, hk, hb⟩ := C.ex
  exact pe_callS F hr hg hm hk hb hx ha hdb he hpl


variable {c0 c1 c2 CP cU : Addr}
/-- what _law_told answers -/
def TD (n : Nat) (rs : List PyData) (k : Int) (d : PyData) : Prop := ∃ x : Int → Int, LenS n rs x ∧ ((k = 0 ∧ x 0 ≠ -1 ∧ d = .tuple [.str "told", lgD x]) ∨ (k = 0 ∧ x 0 = -1 ∧ d = .tuple [.str "undefined", .str "text"]) ∨ (k = 1 ∧ x 0 = -2 ∧ ∃ dl, LpG n rs dl ∧ d = .tuple [.str "told", dl]) ∨ (k = 1 ∧ x 0 ≠ -2 ∧ d = .tuple [.str "undefined", .str "loop"]))
def spTo (K : PySem.W.Frag) (CP : Addr) : Sp := fun vs H Q _ => ∃ (B : Hp) (vm : V) (n : Nat) (rs : List PyData) (k : Int), vs = [.int k, vm] ∧ Ex B H ∧ InsP K CP (.int (n : Nat)) (.tuple rs) vm B ∧ Gs n rs ∧ (k = 0 ∨ k = 1) ∧ ∀ v' B' H' d, Step (fun _ => False) B H B' H' → TD n rs k d → Dd K B' v' d → Q v' H'

abbrev s_law_told : Stmt := topS 64
abbrev N_law_told : List Str := ["which", "made", "e"]
theorem sc_law_told : FnScope N_law_told ["which", "made"] (defScope s_law_told) := ⟨rfl, rfl, rfl, by decide +kernel, rfl, by decide +kernel, by decide +kernel⟩
theorem ok_law_told (F : Fun K "_law_told" "_law_told" s_law_told f fd) (T : TU P w K mg base c0 c1 c2 CP cU) (C_longest : CalleeX P w K mg base "longest" 6 ["pairs"] (spLg K CP cU)) (C_loop : CalleeX P w K mg base "loop" 6 ["pairs"] (spLp K CP cU)) : FnOk P w K mg base CX0 7 f fd ["which", "made"] (spTo K CP) := by
  refine F.ok sc_law_told (fun vs H Q E h => ?_) (fun cdv A outer s H vs Q E hr h => ?_)
  · obtain ⟨B, vm, n, rs, k, rfl, _⟩ := h
    rfl
  · obtain ⟨B, vm, n, rs, k, rfl, e, hp, g, hk, q⟩ := h
    have hu64 : (A.deeper (envOfC "_law_told" (defScope s_law_told) s.heap.objs.size f cdv)).units + 64 < cLine := hr.units
    refine ⟨_, (pss_one (ps_try_names (i := 2) (Wout := fun _ _ _ _ => False) rfl rfl sc_law_told.nd rfl rfl takes0 (fun W pn xe tk _ => (pss_one (ps_ret (pe_tup (pa_cons pe_str (pa_cons (pe_ifExp (pt_cmpR (op_eqDK K hu64) (pv 0) pe_int (nomark _)) (pe_callX C_longest (hr.mono (by decide)) rfl (fun σ => passAt tk σ) (pa_cons (pv 1) pa_nil)) (pe_callX C_loop (hr.mono (by decide)) rfl (fun σ => passAt tk σ) (pa_cons (pv 1) pa_nil))) pa_nil))))))
        (.cons ⟨rfl, by decide, Or.inl T.x_Undefined.g⟩ (fun a oe cls d pn hz hf => (pss_one (ps_ret (pe_tup (pa_cons pe_str (pa_cons (pe_xf T.x_Undefined.xf T.x_Undefined.no hz hf (pv 2)) pa_nil)))))) .nil))), ?_⟩
    have fin : ∀ (B' H1 H' : Hp) (tag : Str) (d : PyData) (v' : V) (p : Addr), Step (fun _ => False) B H B' H1 → Dd K B' v' d → Ex H1 H' → tag.length ≤ sizeLine → TD n rs k (.tuple [.str tag, d]) → H' p = none → Q (.ref p) (upd H' p (.tup [.str tag, v'])) := by
      intro B' H1 H' tag d v' p s0 hv' eH ht htd hp
      have s1 : Step (fun _ => False) B' H1 B' H' := ⟨Ex.refl B', s0.bh.trans eH, fun a u _ h => eH _ _ h, fun a h _ => h, fun a n => (by
        cases hh : H1 a with
        | none => exact absurd hh n
        | some u =>
          rw [eH _ _ hh]
          exact fun z => nomatch z), fun a ⟨o, h, n⟩ => ⟨o, eH _ _ h, n⟩⟩
      have bp : B' p = none := fresh_back s1.bh hp
      refine q _ _ _ _ ((s0.trans s1).trans (Step.alloc s1.bh hp)) htd ?_
      exact .tup (ta_of upd_same) (by show 2 ≤ sizeLine; decide) (.cons (.str _ ht) (.cons (hv'.up (Ex.new bp)) .nil))
    have a : At Fm.pure B H B H := At.start (Ok.any e)
    show tIf (tTest (tOp (rEqD K) (tVar 0) (tC (.int 0)))) _ _ [some (.int k), some vm, none] H _
    refine (et_is (b' := k == 0) (et_cmp (K := K) (ed_op (ed_var rfl (.int k)) (ed_int (i := 0)) (rd_eqD rfl rfl))) (eqv_int _ _)) B (Ex.refl B) H a.j _ fun B1 H1 s1 j1 => ?_
    have e1 := s1.bb
    have hp := upc_ins _ _ _ e1 hp
    rcases hk with rfl | rfl
    · rw [show ((0 : Int) == 0) = true from rfl, if_pos rfl]
      refine ⟨vm, rfl, B1, vm, n, rs, rfl, j1.e, hp, g, fun x v' B' H' s hx h0 hd => ⟨by show 2 ≤ sizeLine; decide, fun p2 hp2 => fin B' H' H' _ (lgD x) v' p2 (s1.trans s) hd (Ex.refl H') (by decide) ⟨x, hx, .inl ⟨rfl, h0, rfl⟩⟩ hp2⟩, fun x v' dd B' H2 H' s hx h0 hd eH hxx => ?_⟩
      exact ⟨true, T.mU, fun _ a0 ha0 => ⟨.ref a0, rfl, rfl, rfl, dd, _, v', rfl, hxx, rfl, by show 2 ≤ sizeLine; decide, fun p2 hp2 => fin B' H2 H' _ (.str "text") v' p2 (s1.trans s) hd eH (by decide) ⟨x, hx, .inr (.inl ⟨rfl, h0, rfl⟩)⟩ hp2⟩, fun h => nomatch h⟩
    · rw [show ((1 : Int) == 0) = false from rfl, if_neg (by decide)]
      refine ⟨vm, rfl, B1, vm, n, rs, rfl, j1.e, hp, g, fun x d v' B' H' s hx h0 hl hd => ⟨by show 2 ≤ sizeLine; decide, fun p2 hp2 => fin B' H' H' _ d v' p2 (s1.trans s) hd (Ex.refl H') (by decide) ⟨x, hx, .inr (.inr (.inl ⟨rfl, h0, d, hl, rfl⟩))⟩ hp2⟩, fun x v' dd B' H2 H' s hx h0 hd eH hxx => ?_⟩
      exact ⟨true, T.mU, fun _ a0 ha0 => ⟨.ref a0, rfl, rfl, rfl, dd, _, v', rfl, hxx, rfl, by show 2 ≤ sizeLine; decide, fun p2 hp2 => fin B' H2 H' _ (.str "loop") v' p2 (s1.trans s) hd eH (by decide) ⟨x, hx, .inr (.inr (.inr ⟨rfl, h0, rfl⟩))⟩ hp2⟩, fun h => nomatch h⟩

end
end K33

namespace K33
open PySem PySem.Spec PyProof.Rows L2 Evl Ex Dx StX
open PySem.PyData (strOk)
section
variable {P : Program} {w : World} {K : PySem.W.Frag} {mg : Str → Option Value} {base : Heap} {f : Addr} {fd : FuncData}


/-! ### the law -/
def spLaw (K : PySem.W.Frag) : Sp := fun vs H Q _ => ∃ (a : Addr) (ns : List Int), vs = [.ref a] ∧ SqL K H a (ns.map V.int) ∧ ns.length ≤ 63 ∧ ∀ H', Q (.bl true) H'
theorem gr_kept {n : Nat} {rs : List PyData} (h1 : 1 ≤ n) (h8 : n ≤ 8) (hne : rs ≠ []) (G : GR n rs) : dueD (.int (n : Nat)) (.tuple rs) = .tuple [.str "kept", .int (n : Nat), .tuple rs] := by
  have hr : rulesD (.tuple rs) n = true := by
    have l9 := G.len
    have l1 : 1 ≤ rs.length := List.length_pos_iff.mpr hne
    rw [rulesD_tup, decide_eq_true (show (1 : Int) ≤ (rs.length : Nat) by omega), decide_eq_true (show ((rs.length : Nat) : Int) ≤ 90 by omega), List.all_eq_true.mpr fun r hr => G.ruleD r hr]
    rfl
  rw [due_back (n := (n : Nat)) ⟨by omega, by omega⟩ hr]
  have hb : backK (edges rs) ((n : Int)).toNat = none := G.bk
  rw [hb]
def Vl (K : PySem.W.Frag) (Φ : List PyData → Prop) : List V → Hp → Prop := fun vs B => ∃ ds, DdAll K B vs ds ∧ Φ ds
def Al (C : PyData → Prop) (n : Nat) (ds : List PyData) : Prop := ds.length = n ∧ ∀ d ∈ ds, C d
section
variable {F : Fm} {σ : L2.St} {B : Hp} {te : TE} {tas : TA} {C : PyData → Prop} {n : Nat}
theorem al_nil : EVs F tNil σ B (Vl K (Al C 0)) := fun B1 e0 H j Q q => q [] B1 H (Step.refl j.e) j ⟨[], .nil, rfl, fun d hd => nomatch hd⟩
theorem al_cons (h : EV F te σ B (fun v B => ∃ d, Dd K B v d ∧ C d)) (hs : EVs F tas σ B (Vl K (Al C n))) : EVs F (tCons te tas) σ B (Vl K (Al C (n + 1))) := fun B1 e0 H j Q q =>
  h B1 e0 H j _ fun v B2 H2 s2 j2 ⟨d, g, hc⟩ => hs B2 (e0.trans s2.bb) H2 j2 _ fun us B3 H3 s3 j3 ⟨ds, gs, hl, hall⟩ => q (v :: us) B3 H3 (s2.trans s3) j3 ⟨d :: ds, .cons (g.up s3.bb) gs, by rw [List.length_cons, hl], fun x hx => by
    rcases List.mem_cons.mp hx with rfl | hx
    · exact hc
    · exact hall x hx⟩
theorem al_e {d : PyData} (h : ED F K te σ B d) (hc : C d) : EV F te σ B (fun v B => ∃ d, Dd K B v d ∧ C d) := EV.imp h fun v _ _ g => ⟨d, g, hc⟩
theorem ev_lstA (h : EVs F tas σ B (Vl K (Al C n))) (hn : n ≤ 1000) : EV F (tLst tas) σ B (fun v B => ∃ ds, Dd K B v (.list ds) ∧ Al C n ds) :=
  h.newL (fun vs B1 _ ⟨ds, g, hl, _⟩ => by rw [DdAll.len g, hl, sizeLine_eq]; omega) fun vs p B1 e ⟨ds, g, hl, hc⟩ hp => ⟨ds, .lst upd_same (by rw [DdAll.len g, hl, sizeLine_eq]; omega) (DdAll.up g (Ex.new hp)), hl, hc⟩
end
theorem qk_asg {F : Fm} {σ : L2.St} {B H : Hp} {te : TE} {P0 : PV} {i : Nat} {tz : L2.TS} {D : Ends} (k : Ok F B H) (h : EV F te σ B P0) (q : ∀ v B5 H5, Ok F B5 H5 → Ex B B5 → P0 v B5 → tz D (σ.set i (some v)) H5) : tSeq (tAsg te (gName i)) tz D σ H := h B (Ex.refl B) H k _ fun v B5 H5 s5 k5 g => q v B5 H5 k5 s5.bb g
theorem qk_if {F : Fm} {σ : L2.St} {B H : Hp} {t : TT} {tu tw : L2.TS} {D : Ends} (k : Ok F B H) (h : ETt F t σ B false) (q : ∀ B5 H5, Ok F B5 H5 → Ex B B5 → tw D σ H5) : tIfS t tu tw D σ H := h B (Ex.refl B) H k _ fun B5 H5 s5 k5 => by
  show tw D σ H5
  exact q B5 H5 k5 s5.bb
def Rws (ds : List PyData) : Prop := ∀ d ∈ ds, Sm 50 d
theorem Rws.cut {ds : List PyData} (h : Rws ds) (lo hi : Option Int) : Rws (cutL ds lo hi) := fun d hd => h d (List.mem_of_mem_drop (List.mem_of_mem_take hd))
theorem Rws.app {ds es : List PyData} (h : Rws ds) (h2 : Rws es) : Rws (ds ++ es) := fun d hd => by
  rcases List.mem_append.mp hd with hd | hd
  · exact h d hd
  · exact h2 d hd
theorem Rws.tup {ds : List PyData} (h : Rws ds) : Sm 60 (.tuple ds) := (sm_tup h).le (by decide)
theorem Rws.lst {ds : List PyData} (h : Rws ds) : Sm 60 (.list ds) := (sm_lst h).le (by decide)
theorem ev_tupL {F : Fm} {σ : L2.St} {B : Hp} {te : TE} {Φ : List PyData → Prop} (h : EV F te σ B (fun v B => ∃ ds, Dd K B v (.list ds) ∧ Φ ds)) : EV F (tCB (fun xs H Q => ∃ p ys, xs = [.ref p] ∧ ((SqL K H p ys ∧ ∀ l, H l = none → Q (.ref l) (upd H l (.tup ys))) ∨ (SqT K H p ys ∧ Q (.ref p) H))) (tCons te tNil)) σ B (fun v B => ∃ ds, Dd K B v (.tuple ds) ∧ Φ ds) := fun B1 e0 H j Q q =>
  h B1 e0 H j _ fun v B2 H2 s2 j2 ⟨ds, g, hΦ⟩ => by
    obtain ⟨a, xs, rfl, h1, l1, g1⟩ := dd_lst g
    exact ⟨a, xs, rfl, .inl ⟨sq_of (j2.e _ _ h1), fun l hl => q _ _ _ (s2.trans (Step.alloc j2.e hl)) (j2.alloc hl) ⟨ds, .tup (ta_of upd_same) l1 (g1.up (Ex.new (fresh_back j2.e hl))), hΦ⟩⟩⟩
/-- [te for k in range(..)], each item known up to a choice -/
theorem ev_lcRN {F : Fm} {σ : L2.St} {B : Hp} {ta : TA} {te : TE} {j : Nat} {vsN : List Nat} {C : PyData → Prop} {N : Nat} (h : EVs F ta σ B (fun vs _ => ∃ n : Int, vs = [.int n] ∧ 0 ≤ n ∧ n ≤ (N : Nat))) (hN : N ≤ 1000) (hw : ∀ x, wipe ((wipe σ vsN).set j (some x)) vsN = wipe σ vsN)
    (he : ∀ (i : Nat) B1, Ex B B1 → EV F te ((wipe σ vsN).set j (some (.int (i : Int)))) B1 (fun v B => ∃ d, Dd K B v d ∧ C d)) :
    EV F (tLc (iRng1 ta) (gName j) tYes te vsN) σ B (fun v B => ∃ ds, Dd K B v (.list ds) ∧ ds.length ≤ N ∧ ∀ x ∈ ds, C x) := fun B0 e0 H0 k0 Q q => by
  refine h B0 e0 H0 k0 _ fun vs B1 H1 s1 k1 pv => ?_
  obtain ⟨n, rfl, n0, n1⟩ := pv
  refine ⟨n, rfl, by omega, by omega, fun Dl hD => lc_range (lo := 0) (n := n.toNat) (fun i H' => ∃ ds : List PyData, ds.length = i ∧ (∀ x ∈ ds, C x) ∧ Cq F K B1 H1 Dl ds H') ⟨[], rfl, fun x hx => (nomatch hx), cq_start k1 hD⟩ (fun i H' hi ⟨ds, hl, hC, c⟩ => ?_) (fun H' ⟨ds, hl, hC, c⟩ => ?_)⟩
  · have e1 : (0 : Int) + (i : Int) = (i : Int) := Int.zero_add _
    show wipe ((wipe σ vsN).set j (some (.int ((0 : Int) + (i : Int))))) vsN = wipe σ vsN ∧ tYes ((wipe σ vsN).set j (some (.int ((0 : Int) + (i : Int))))) H' _
    rw [e1]
    refine ⟨hw _, ?_⟩
    obtain ⟨B', acc, s, k, hb, hd, ha⟩ := c
    have nm : ¬ F.M Dl := fun m => (F.lv H1 Dl k1.j m).ne hD
    have lv : Liv H' Dl := ⟨_, hd, trivial⟩
    show te _ H' _
    refine he i B' ((e0.trans s1.bb).trans s.bb) B' (Ex.refl B') H' k _ fun y B4 H4 s4 k4 ⟨d, g, hc⟩ => ?_
    refine ⟨acc, s4.keep Dl _ nm hd, by rw [ha.len, sizeLine_eq]; omega, ds ++ [d], by rw [List.length_append, List.length_singleton, hl], fun x hx => ?_, cq_more hD k1 (s.trans s4) k4 (s4.sep Dl hb lv) (s4.keep Dl _ nm hd) (ha.up s4.bb) g⟩
    rcases List.mem_append.mp hx with hx | hx
    · exact hC x hx
    · rw [List.mem_singleton.mp hx]
      exact hc
  · obtain ⟨B2, s2, k2, g2⟩ := cq_done k1 hD (by omega) c
    exact q _ B2 H' (s1.trans s2) k2 ⟨ds, g2, by omega, hC⟩


theorem sl_lstK {X : Cx} (K : PySem.W.Frag) (hK : X.K = K := by rfl) : SlR X (rSlL K) := by subst hK; exact sl_list
theorem dd_cut {H : Hp} {vs : List V} {ds : List PyData} (h : DdAll K H vs ds) (lo hi : Option Int) : DdAll K H (cutV vs lo hi) (cutL ds lo hi) := by
  unfold cutV cutL
  rw [h.len]
  exact (h.drop _).take _
theorem ed_slL {F : Fm} {σ : L2.St} {B : Hp} {te : TE} {tl th : TO} {ds : List PyData} {lo hi : Option Int} (h : ED F K te σ B (.list ds)) (hl : EO F tl σ B lo) (hh : EO F th σ B hi) : ED F K (tSl (rSlL K) te tl th) σ B (.list (cutL ds lo hi)) := fun B1 e0 H k Q q =>
  h B1 e0 H k _ fun v B2 H2 s2 k2 g => hl B2 (e0.trans s2.bb) H2 k2 _ fun B3 H3 s3 k3 => hh B3 ((e0.trans s2.bb).trans s3.bb) H3 k3 _ fun B4 H4 s4 k4 => by
    obtain ⟨a, xs, rfl, h1, l1, g1⟩ := dd_lst (g.up (s3.bb.trans s4.bb))
    refine ⟨a, xs, rfl, sq_of (k4.e _ _ h1), fun p hp => q (.ref p) _ _ (((s2.trans s3).trans s4).trans (Step.alloc k4.e hp)) (k4.alloc hp) (.lst upd_same ?_ ((dd_cut g1 lo hi).up (Ex.new (fresh_back k4.e hp))))⟩
    have : (cutV xs lo hi).length ≤ xs.length := by unfold cutV; rw [List.length_take, List.length_drop]; omega
    omega
section
variable {F : Fm} {B0 H0 B H : Hp} {L : List (Addr × HO)} {na : Addr} {xs : List V} {σ : L2.St} {te : TE} {tas : TA} {tz : L2.TS} {D : Ends} {i : Nat} {n : Nat} {C : PyData → Prop} {a : Addr} {o : HO} {ds : List PyData}
theorem qk_when {t : TT} {tu : L2.TS} (k : Ok F B H) (h : ETt F t σ B false) (q : ∀ B5 H5, Ok F B5 H5 → Ex B B5 → tz D σ H5) : tSeq (tIfS t tu tNext) tz D σ H := qk_if (D := { D with nx := tz D }) k h q
theorem ow_tail (w : Ow F B0 H0 B H ((a, o) :: L)) : Ow F B0 H0 B H L := ⟨w.st, w.k, fun q hq => w.ow q (List.mem_cons_of_mem _ hq), (List.nodup_cons.mp (show (a :: L.map (·.1)).Nodup from w.nd)).2⟩
theorem wq_lstA (w : Ow F B0 H0 B H L) (h : EVs F tas σ B (Vl K (Al C n))) (hn : n ≤ 1000) (q : ∀ na vs ds B5 H5, Ow F B0 H0 B5 H5 ((na, .lst vs) :: L) → Ex B B5 → DdAll K B5 vs ds → Al C n ds → tz D (σ.set i (some (.ref na))) H5) : tSeq (tAsg (tLst tas) (gName i)) tz D σ H :=
  h B (Ex.refl B) H w.k _ fun vs B5 H5 s5 k5 ⟨ds, g, hl, hc⟩ => ⟨by rw [g.len, hl, sizeLine_eq]; omega, fun na hna => q na vs ds B5 _ ((w.pass s5 k5).new hna trivial) s5.bb g ⟨hl, hc⟩⟩
theorem ws_addA (w : Ow F B0 H0 B H ((na, .lst xs) :: L)) (hi : σ[i]? = some (some (.ref na))) (hx : DdAll K B xs ds) (h : EV F te σ B (fun v B => ∃ es, Dd K B v (.list es) ∧ Al C n es)) (hl : ds.length + n ≤ 1000) (q : ∀ na' vs es B5 H5, Ow F B0 H0 B5 H5 ((na', .lst vs) :: L) → Ex B B5 → DdAll K B5 vs (ds ++ es) → Al C n es → D.nx (σ.set i (some (.ref na'))) H5) : tAsg (tOp (rAddA K) (tVar i) te) (gName i) D σ H := by
  refine ⟨.ref na, hi, h B (Ex.refl B) H w.k _ fun v B5 H5 s5 k5 ⟨es, g, hle, hc⟩ => ?_⟩
  obtain ⟨b, us, rfl, h1, _, g1⟩ := dd_lst g
  have w5 := w.pass s5 k5
  exact .inr (.inr (.inl ⟨na, b, xs, us, rfl, rfl, w5.here, k5.e _ _ h1, by rw [hx.len, g1.len, hle, sizeLine_eq]; omega, fun p2 hp2 => q p2 _ es B5 _ ((ow_tail w5).new hp2 trivial) s5.bb ((hx.up s5.bb).app g1) ⟨hle, hc⟩⟩))
theorem ws_appX (w : Ow F B0 H0 B H ((na, .lst xs) :: L)) (hi : σ[i]? = some (some (.ref na))) (h : EV F te σ B (fun v B => ∃ d, Dd K B v d ∧ C d)) (hl : xs.length < 16777216) (q : ∀ v d B5 H5, Ow F B0 H0 B5 H5 ((na, .lst (xs ++ [v])) :: L) → Ex B B5 → Dd K B5 v d → C d → D.nx σ H5) : tDrop (tBM K "list" rAppend (tVar i) (tCons te tNil)) D σ H :=
  ⟨.ref na, hi, .inl ⟨rfl, _, sq_of w.here⟩, h B (Ex.refl B) H w.k _ fun v B5 H5 s5 k5 ⟨d, g, hc⟩ => ⟨na, xs, v, rfl, rfl, (w.pass s5 k5).here, by rw [sizeLine_eq]; exact hl, q v d B5 _ ((w.pass s5 k5).set _ trivial) s5.bb g hc⟩⟩
end
theorem toD_sm {s : Int × Int} {n : Nat} : Sm (n + 2) (toD s) := sm_tup (n := n + 1) fun y hy => by
  simp only [List.mem_cons, List.not_mem_nil, or_false] at hy
  rcases hy with rfl | rfl <;> exact sm_int
theorem loop_sm2 {n : Nat} {rs : List PyData} {R : Way} (g : Gs n rs) (hl : R.length ≤ 9) (h : ∀ s ∈ R, StI rs s.1 s.2) : smD 2 (.tuple (R.map toD)) = true := by
  show (false || (decide ((R.map toD).length ≤ 3000) && (R.map toD).all (smD 1))) = true
  rw [Bool.false_or, Bool.and_eq_true, decide_eq_true_eq, List.all_eq_true, List.length_map]
  refine ⟨by omega, fun x hx => ?_⟩
  obtain ⟨s, hs, rfl⟩ := List.mem_map.mp hx
  obtain ⟨⟨a0, a1⟩, b0, b1⟩ := h s hs
  have l9 := g.l9
  have hpl := (g.rf _ (rlA_at ⟨a0, a1⟩).2).parts.1
  have at2 : ∀ k : Int, 0 ≤ k → k ≤ 40 → atomD (.int k) = true := fun k h0 h1 => by
    show (decide (0 ≤ k) && decide (k ≤ 40)) = true
    rw [decide_eq_true h0, decide_eq_true h1]
    rfl
  refine sm1 (by show 2 ≤ 20; decide) fun x hx => ?_
  have hx' : x ∈ [PyData.int s.1, .int s.2] := hx
  simp only [List.mem_cons, List.not_mem_nil, or_false] at hx'
  rcases hx' with rfl | rfl
  · exact at2 _ a0 (by omega)
  · exact at2 _ b0 (by omega)
theorem rws_loop (R : Way) : Rws (R.map toD) := fun d hd => by
  obtain ⟨s, _, rfl⟩ := List.mem_map.mp hd
  exact toD_sm
theorem Rws.rep {ds : List PyData} (h : Rws ds) (n : Nat) : Rws (List.replicate n ds).flatten := fun d hd => by
  obtain ⟨l, hl, hd⟩ := List.mem_flatten.mp hd
  rw [(List.mem_replicate.mp hl).2] at hd
  exact h d hd
variable {c0 c1 c2 CP cU : Addr}
/-- not _law_is_due(loop_holds(made, value), _law_is_loop(grammar, value)): never -/
theorem et_loops {F : Fm} {σ : L2.St} {B : Hp} {i1 i2 i3 : Nat} {vm vg v : V} {n : Nat} {rs : List PyData} {d : PyData} (h1 : σ[i1]? = some (some vm)) (h2 : σ[i2]? = some (some vg)) (h3 : σ[i3]? = some (some v)) (hm : InsP K CP (.int (n : Nat)) (.tuple rs) vm B) (hg : Dd K B vg (.tuple [.int (n : Nat), .tuple rs])) (g : Gs n rs) (hv : Dd K B v d) (hs : Sm 60 d) :
    ETt F (tNot (tB (tCall (spF K (fun ds => ∃ a b, ds = [.bool a, .bool b]) fIs) [] E0 (tCons (tCall (spLH K CP) [] E0 (tCons (tVar i1) (tCons (tVar i3) tNil))) (tCons (tCall (spIL K) [] E0 (tCons (tVar i2) (tCons (tVar i3) tNil))) tNil))))) σ B false := by
  have e1 : ED F K (tCall (spLH K CP) [] E0 (tCons (tVar i1) (tCons (tVar i3) tNil))) σ B (.bool (loopB n rs d)) := fun B1 e1 H1 j1 Q1 q1 => ⟨vm, h1, v, h3, B1, vm, v, n, rs, d, rfl, j1.e, upc_ins _ _ _ e1 hm, g, hv.up e1, fun B' H' s => q1 _ B' H' s.pure (j1.pure s) (.bl _)⟩
  have e2 : ED F K (tCall (spIL K) [] E0 (tCons (tVar i2) (tCons (tVar i3) tNil))) σ B (.bool (loopB n rs d)) := fun B1 e1 H1 j1 Q1 q1 => ⟨vg, h2, v, h3, B1, vg, v, n, rs, d, rfl, j1.e, hg.up e1, g, hv.up e1, hs, fun B' H' s => q1 _ B' H' s.pure (j1.pure s) (.bl _)⟩
  exact et_is (et_not (et_val (ed_F (z := .bool true) (eds_cons e1 (eds_cons e2 eds_nil)) ⟨_, _, rfl⟩ (by
    show PyData.bool (loopB n rs d == loopB n rs d) = .bool true
    rw [beq_self_eq_true])))) rfl
/-- _law_spoilt(box, x, 2) -/
theorem ev_spoil {p : Addr} {σ : L2.St} {B : Hp} {i j : Nat} {v : V} {d : PyData} (hi : σ[i]? = some (some (.ref p))) (hj : σ[j]? = some (some v)) (hv : Dd K B v d) (hd : smD 2 d = true) : EV (Fm.box p) (tCall (spSpoil K 2) [] E0 (tCons (tVar i) (tCons (tVar j) (tCons (tC (.int 2)) tNil)))) σ B (fun v B => ∃ d, Dd K B v d ∧ Sm 60 d) := fun B1 e1 H1 j1 Q1 q1 =>
  ⟨.ref p, hi, v, hj, p, v, B1, d, rfl, j1, hv.up e1, hd, fun v' B' H' e s k g hs => q1 v' B' H' s k ⟨e, g, hs.le (by decide)⟩⟩
def told0D (x : Int → Int) : PyData := if x 0 = -1 then .tuple [.str "undefined", .str "text"] else .tuple [.str "told", lgD x]
theorem td0 {n : Nat} {rs : List PyData} {x : Int → Int} {d : PyData} (g : Gs n rs) (hx : LenS n rs x) (h : TD n rs 0 d) : d = told0D x := by
  obtain ⟨y, hy, h⟩ := h
  have e : y 0 = x 0 := hy.uniq g hx 0 ⟨Int.le_refl 0, by have := g.n1; omega⟩
  unfold told0D
  rcases h with ⟨_, h1, rfl⟩ | ⟨_, h1, rfl⟩ | ⟨h0, _⟩ | ⟨h0, _⟩
  · rw [if_neg (by omega)]
    unfold lgD
    rw [e]
  · rw [if_pos (by omega)]
  · cases h0
  · cases h0
theorem told_sh {s : Str} {d : PyData} (hs : s = "told" ∨ s = "undefined") (h : Sm 55 d) : Sm 60 (.tuple [.str s, d]) := Sm.le (sm_tup (n := 55) fun y hy => by
  simp only [List.mem_cons, List.not_mem_nil, or_false] at hy
  rcases hy with rfl | rfl
  · rcases hs with rfl | rfl <;> exact sm_str (by decide +kernel)
  · exact h) (by decide)
theorem told0_sm (x : Int → Int) : Sm 60 (told0D x) := by
  unfold told0D
  split
  · exact told_sh (.inr rfl) (sm_str (by decide +kernel))
  · refine told_sh (.inl rfl) ?_
    unfold lgD
    split
    · exact sm_none
    · exact sm_int

abbrev s_law : Stmt := topS 66
abbrev N_law : List Str := ["script", "box", "grammar", "made", "due", "told", "one", "found", "k", "steps", "values", "value", "j"]
theorem sc_law : FnScope N_law ["script"] (defScope s_law) := ⟨rfl, rfl, rfl, by decide +kernel, rfl, by decide +kernel, by decide +kernel⟩
theorem ok_law (F : Fun K "law" "law" s_law f fd) (T : TU P w K mg base c0 c1 c2 CP cU) (C_law_box : Callee P w K mg base "_law_box" 1 ["script", "k"] (spBoxN K)) (C_law_take : Callee P w K mg base "_law_take" 1 ["box", "many"] (spTake K)) (C_law_grammar : Callee P w K mg base "_law_grammar" 3 ["script", "most"] (spGram K)) (C_law_sparse : Callee P w K mg base "_law_sparse" 3 ["box"] (spSpa K)) (C_law_made : Callee P w K mg base "_law_made" 7 ["grammar"] (spMade K CP)) (C_law_lengths : Callee P w K mg base "_law_lengths" 3 ["grammar"] (spLL K)) (C_lengths : Callee P w K mg base "lengths" 5 ["pairs"] (spLen K CP)) (C_law_whole : Callee P w K mg base "_law_whole" 1 ["value"] (spInt K)) (C_law_told : Callee P w K mg base "_law_told" 7 ["which", "made"] (spTo K CP)) (C_law_is_loop : Callee P w K mg base "_law_is_loop" 4 ["grammar", "value"] (spIL K)) (C_law_spoilt : Callee P w K mg base "_law_spoilt" 5 ["box", "value", "deep"] (spSpoil K 2)) (C_law_is_due : Callee P w K mg base "_law_is_due" 1 ["told", "due"] (spF K (fun ds => ∃ a b, ds = [.bool a, .bool b]) fIs)) (C_loop_holds : Callee P w K mg base "loop_holds" 5 ["pairs", "value"] (spLH K CP)) : FnOk P w K mg base CX0 8 f fd ["script"] (spLaw K) := by
  refine F.ok sc_law (fun vs H Q E h => ?_) (fun cdv A outer s H vs Q E hr h => ?_)
  · obtain ⟨a, ns, rfl, _⟩ := h
    rfl
  · obtain ⟨a, ns, rfl, hS, hl, q⟩ := h
    have hu64 : (A.deeper (envOfC "law" (defScope s_law) s.heap.objs.size f cdv)).units + 64 < cLine := hr.units
    refine ⟨_, (pss_cons (ps_set (i := 1) sc_law.nd rfl (Or.inr rfl) (pe_callC C_law_box (hr.mono (by decide)) rfl pass0 (pa_cons (pv 0) (pa_cons pe_int pa_nil))))
      (pss_cons (ps_set (i := 2) sc_law.nd rfl (Or.inr rfl) (pe_ifExp (pt_cmpR (op_eqDK K hu64) (pe_callC C_law_take (hr.mono (by decide)) rfl pass0 (pa_cons (pv 1) (pa_cons pe_int pa_nil))) pe_int (nomark _)) (pe_callC C_law_grammar (hr.mono (by decide)) rfl pass0 (pa_cons (pv 0) (pa_cons pe_int pa_nil))) (pe_callC C_law_sparse (hr.mono (by decide)) rfl pass0 (pa_cons (pv 1) pa_nil))))
      (pss_cons (ps_set (i := 3) sc_law.nd rfl (Or.inl rfl) (pe_callC C_law_made (hr.mono (by decide)) rfl pass0 (pa_cons (pv 2) pa_nil)))
      (pss_cons (ps_set (i := 4) sc_law.nd rfl (Or.inl rfl) (pe_callC C_law_lengths (hr.mono (by decide)) rfl pass0 (pa_cons (pv 2) pa_nil)))
      (pss_cons (ps_set (i := 5) sc_law.nd rfl (Or.inl rfl) (pe_callC C_lengths (hr.mono (by decide)) rfl pass0 (pa_cons (pv 3) pa_nil)))
      (pss_cons (ps_if (PW.pt (pw_or (pt_cmpR (op_neDK K hu64) (pv 5) (pv 4) (nomark _)) (pw_or (pt_cmpR (op_neDK K hu64) (pe_lc (own := [("one", 6)]) rfl sc_law.nd (pi_seqK K (pv 5)) (blkOk_by (own := [("one", 6)]) (N := N_law) (sc := defScope s_law) (by decide +kernel)) (fun _ _ _ _ _ => pg_name (i := 6) sc_law.nd rfl (Or.inl rfl)) (fun _ _ _ _ _ => (pts_one (PW.pt (pw_and (pt_not (pt_val (pe_callC C_law_whole (hr.mono (by decide)) rfl pass0 (pa_cons (pv 6) pa_nil)))) (pw_and1 (pt_cmpR (op_ninK K) (pv 6) (pe_lst (pa_cons (pe_un un_neg pe_int) (pa_cons (pe_un un_neg pe_int) pa_nil))) (by rfl))))))) (fun _ _ _ _ _ => (pv 6))) (pe_lst pa_nil) (nomark _)) (pw_or1 (pt_not (pt_val (pe_callB (call_isiK1 K) (by rfl) T.m_isinstance bt_isinstance (pa_cons (pv 5) (pa_cons (pe_bltn (v := .ty "tuple") (by rfl) T.m_tuple bt_tuple rfl) pa_nil))))))))) (pss_one (ps_ret pe_bl)) pss_nil)
      (pss_cons (ps_if (pt_cmpR (op_neDK K hu64) (pe_callC C_law_told (hr.mono (by decide)) rfl pass0 (pa_cons pe_int (pa_cons (pv 3) pa_nil))) (pe_ifExp (pt_cmpR (op_eqDK K hu64) (pe_ix (ix_seqK K) (pv 4) pe_int (fun _ _ => rfl)) (pe_un un_neg pe_int) (nomark _)) (pe_tup (pa_cons pe_str (pa_cons pe_str pa_nil))) (pe_tup (pa_cons pe_str (pa_cons (pe_ifExp (pt_cmpR (op_eqDK K hu64) (pe_ix (ix_seqK K) (pv 4) pe_int (fun _ _ => rfl)) (pe_un un_neg pe_int) (nomark _)) pe_non (pe_ix (ix_seqK K) (pv 4) pe_int (fun _ _ => rfl))) pa_nil)))) (nomark _)) (pss_one (ps_ret pe_bl)) pss_nil)
      (pss_cons (ps_set (i := 7) sc_law.nd rfl (Or.inl rfl) (pe_callC C_law_told (hr.mono (by decide)) rfl pass0 (pa_cons pe_int (pa_cons (pv 3) pa_nil))))
      (pss_cons (ps_setLc (i := 9) (own := [("k", 8)]) rfl sc_law.nd rfl rfl (sw_true rfl rfl rfl (by decide +kernel)) (pi_range1 rfl T.m_range (pa_cons (pe_callB (call_lenK K) (by rfl) T.m_len bt_len (pa_cons (pe_ix (ix_seqK K) (pv 2) pe_int (fun _ _ => rfl)) pa_nil)) pa_nil)) (blkOk_by (own := [("k", 8)]) (N := N_law) (sc := defScope s_law) (by decide +kernel)) (fun _ _ _ _ _ => pg_name (i := 8) sc_law.nd rfl (Or.inl rfl)) (fun _ _ _ _ _ => pts_nil) (fun _ _ _ _ _ => (pe_tup (pa_cons (pv 8) (pa_cons pe_int pa_nil)))))
      (pss_cons (ps_set (i := 10) sc_law.nd rfl (Or.inl rfl) (pe_lst (pa_cons (pe_tup pa_nil) (pa_cons pe_non (pa_cons pe_int (pa_cons (pe_tup (pa_cons (pe_tup (pa_cons pe_int (pa_cons pe_int pa_nil))) pa_nil)) (pa_cons (pe_callTy (call_tuple_ofK K) (by rfl) T.m_tuple bt_tuple (pa_cons (pe_slice (sl_lstK K) (pv 9) po_none (po_some pe_int)) pa_nil)) (pa_cons (pe_tup (pa_cons (pe_tup (pa_cons pe_int (pa_cons pe_bl pa_nil))) pa_nil)) (pa_cons (pe_tup (pa_cons (pe_lst (pa_cons pe_int (pa_cons pe_int pa_nil))) pa_nil)) pa_nil)))))))))
      (Evl.pss_cut (ps_if (pt_cmpR (op_eqDK K hu64) (pe_ix (ix_seqK K) (pv 4) pe_int (fun _ _ => rfl)) (pe_un un_neg pe_int) (nomark _)) (pss_cons (ps_if (PW.pt (pw_or (pt_cmpR (op_neDK K hu64) (pe_ix (ix_seqK K) (pv 7) pe_int (fun _ _ => rfl)) pe_str (nomark _)) (pw_or (pt_not (pt_val (pe_callC C_law_is_loop (hr.mono (by decide)) rfl pass0 (pa_cons (pv 2) (pa_cons (pe_ix (ix_seqK K) (pv 7) pe_int (fun _ _ => rfl)) pa_nil))))) (pw_or1 (pt_cmpR (op_neDK K hu64) (pe_callC C_law_told (hr.mono (by decide)) rfl pass0 (pa_cons pe_int (pa_cons (pe_callC C_law_made (hr.mono (by decide)) rfl pass0 (pa_cons (pv 2) pa_nil)) pa_nil))) (pv 7) (nomark _)))))) (pss_one (ps_ret pe_bl)) pss_nil)
      (pss_cons (ps_set (i := 6) sc_law.nd rfl (Or.inl rfl) (pe_ix (ix_seqK K) (pv 7) pe_int (fun _ _ => rfl)))
      (pss_one (ps_set (i := 10) sc_law.nd rfl (Or.inl rfl) (pe_op (op_addK K) (pv 10) (pe_lst (pa_cons (pv 6) (pa_cons (pe_op (op_addK K) (pe_slice (sl_anyK K) (pv 6) (po_some pe_int) po_none) (pe_slice (sl_anyK K) (pv 6) po_none (po_some pe_int))) (pa_cons (pe_op (op_addK K) (pv 6) (pv 6)) (pa_cons (pe_slice (sl_anyK K) (pv 6) (po_some pe_int) po_none) (pa_cons (pe_revTK K (pv 6)) (pa_cons (pe_callTy (call_list_ofK K) (by rfl) T.m_list bt_list (pa_cons (pv 6) pa_nil)) (pa_cons (pe_callC C_law_spoilt (hr.mono (by decide)) rfl pass0 (pa_cons (pv 1) (pa_cons (pv 6) (pa_cons pe_int pa_nil)))) (pa_cons (pe_callC C_law_spoilt (hr.mono (by decide)) rfl pass0 (pa_cons (pv 1) (pa_cons (pv 6) (pa_cons pe_int pa_nil)))) (pa_cons (pe_op op_repT (pv 6) pe_int) pa_nil))))))))))))))) (pss_one (ps_if (pt_cmpR (op_neDK K hu64) (pv 7) (pe_tup (pa_cons pe_str (pa_cons pe_str pa_nil))) (nomark _)) (pss_one (ps_ret pe_bl)) pss_nil)))
      (pss_cons (ps_for PassesOwn.never rfl (pi_range1 rfl T.m_range (pa_cons pe_int pa_nil)) (pg_name (i := 8) sc_law.nd rfl (Or.inl rfl)) (pss_one (ps_expr (pe_bm PySem.F.plainAttrs_list PySem.F.slot_list_append PySem.F.type_list_append mt_append (pv 10) (pa_cons (pe_callTy (call_tuple_ofK K) (by rfl) T.m_tuple bt_tuple (pa_cons (pe_lc (own := [("j", 12)]) rfl sc_law.nd (pi_range1 rfl T.m_range (pa_cons (pe_op (op_addK K) pe_int (pe_callC C_law_take (hr.mono (by decide)) rfl pass0 (pa_cons (pv 1) (pa_cons pe_int pa_nil)))) pa_nil)) (blkOk_by (own := [("j", 12)]) (N := N_law) (sc := defScope s_law) (by decide +kernel)) (fun _ _ _ _ _ => pg_name (i := 12) sc_law.nd rfl (Or.inl rfl)) (fun _ _ _ _ _ => pts_nil) (fun _ _ _ _ _ => (pe_tup (pa_cons (pe_callC C_law_take (hr.mono (by decide)) rfl pass0 (pa_cons (pv 1) (pa_cons (pe_callB (call_lenK K) (by rfl) T.m_len bt_len (pa_cons (pe_ix (ix_seqK K) (pv 2) pe_int (fun _ _ => rfl)) pa_nil)) pa_nil))) (pa_cons (pe_callC C_law_take (hr.mono (by decide)) rfl pass0 (pa_cons (pv 1) (pa_cons pe_int pa_nil))) pa_nil))))) pa_nil)) pa_nil)))))
      (pss_cons (ps_for PassesOwn.never rfl (pi_seqK K (pv 10)) (pg_name (i := 11) sc_law.nd rfl (Or.inl rfl)) (pss_one (ps_if (pt_not (pt_val (pe_callC C_law_is_due (hr.mono (by decide)) rfl pass0 (pa_cons (pe_callC C_loop_holds (hr.mono (by decide)) rfl pass0 (pa_cons (pv 3) (pa_cons (pv 11) pa_nil))) (pa_cons (pe_callC C_law_is_loop (hr.mono (by decide)) rfl pass0 (pa_cons (pv 2) (pa_cons (pv 11) pa_nil))) pa_nil))))) (pss_one (ps_ret pe_bl)) pss_nil)))
      (pss_one (ps_ret pe_bl))))))))))))))), ?_⟩
    refine ⟨.ref a, rfl, a, 4, ns, H, rfl, Ex.refl H, hS, hl, by decide, by decide, fun p B1 H1 hp s1 k1 => ?_⟩
    have hS1 : SqL K B1 a (ns.map V.int) := ex_l s1.bb hS
    dsimp only [gName]
    -- grammar
    refine qk_asg (P0 := fun v B => ∃ (n : Nat) (rs : List PyData), Dd K B v (.tuple [.int (n : Nat), .tuple rs]) ∧ 1 ≤ n ∧ n ≤ 8 ∧ rs ≠ [] ∧ GR n rs) k1 (ev_ifX (ev_op (P := fun v B => ∃ t : Int, Dd K B v (.int t) ∧ 0 ≤ t ∧ t < 2) (P' := DD K (.int 0)) (evp_take (K := K) (i := 1) rfl ed_int (by decide) (by decide)) ed_int (fun _ _ _ e ⟨t, h, r⟩ => ⟨t, h.up e, r⟩) fun B6 _ H6 u v j6 ⟨t, hu, _⟩ hv Q q => rd_eqD (F := Fm.box p) (K := K) (B := B6) (x := .int t) (y := .int 0) rfl rfl B6 (Ex.refl B6) H6 u v j6 hu hv Q fun w B' H' s jj gw => q w B' H' s jj ⟨_, dd_bl gw⟩)
      (fun B2 e2 H2 j2 Q2 q2 => ⟨.ref a, rfl, a, ns, B2, rfl, j2.e, ex_l e2 hS1, hl, fun v B' H' n rs s hg n1 n8 hne G => q2 v B' H' s.pure (j2.pure s) ⟨n, rs, hg, n1, n8, hne, G⟩⟩)
      (fun B2 e2 H2 j2 Q2 q2 => ⟨.ref p, rfl, p, B2, rfl, j2, fun v B' H' n rs s k hg n1 n8 hne G => q2 v B' H' s k ⟨n, rs, hg, n1, n8, hne, G⟩⟩)) fun vg B2 H2 k2 e2 ⟨n, rs, hg, n1, n8, hne, G⟩ => ?_
    have g : Gs n rs := ⟨n8, n1, G.len, fun r hr => rg_rf (G.ok r hr)⟩
    have l9 := g.l9
    have l1 : 1 ≤ rs.length := List.length_pos_iff.mpr hne
    -- made
    refine qk_asg (P0 := InsP K CP (.int (n : Nat)) (.tuple rs)) k2 (fun B3 e3 H3 j3 Q3 q3 => ⟨vg, rfl, B3, vg, _, _, rfl, j3.e, hg.up e3, gr_kept n1 n8 hne G, fun v' B' H' s gi => q3 v' B' H' s.pure (j3.pure s) gi⟩) fun vm B3 H3 k3 e3 hm => ?_
    have hg := hg.up e3
    -- due
    refine qk_asg (P0 := fun v B => ∃ x, LenS n rs x ∧ Dd K B v (.tuple ((List.range n).map fun k : Nat => .int (x k)))) k3 (fun B4 e4 H4 j4 Q4 q4 => ⟨vg, rfl, B4, vg, n, rs, rfl, j4.e, hg.up e4, g, fun v' B' H' x s hx gd => q4 v' B' H' s.pure (j4.pure s) ⟨x, hx, gd⟩⟩) fun vd B4 H4 k4 e4 ⟨x, hx, hdue⟩ => ?_
    have hg := hg.up e4
    have hm := upc_ins _ _ _ e4 hm
    have lenEq : ∀ y, LenS n rs y → ((List.range n).map fun k : Nat => PyData.int (y k)) = ((List.range n).map fun k : Nat => PyData.int (x k)) := fun y hy => List.map_congr_left fun k hk => by
      rw [hy.uniq g hx (k : Nat) ⟨by omega, by have := List.mem_range.mp hk; omega⟩]
    have sld : Sm 60 (.tuple ((List.range n).map fun k : Nat => PyData.int (x k))) := Sm.le (sm_tup (n := 1) fun y hy => by
      obtain ⟨k, _, rfl⟩ := List.mem_map.mp hy
      exact sm_int) (by decide)
    -- told
    refine qk_asg (P0 := DD K (.tuple ((List.range n).map fun k : Nat => .int (x k)))) k4 (fun B5 e5 H5 j5 Q5 q5 => ⟨vm, rfl, B5, vm, n, rs, rfl, j5.e, upc_ins _ _ _ e5 hm, g, fun v' B' H' y s hy gd => q5 v' B' H' s.pure (j5.pure s) (by rw [lenEq y hy] at gd; exact gd)⟩) fun vt B5 H5 k5 e5 htold => ?_
    have hg := hg.up e5
    have hm := upc_ins _ _ _ e5 hm
    have hdue := hdue.up e5
    -- told is due
    refine qk_when k5 (PW_or3 (et_is (et_cmp (ed_op (ed_var (i := 5) rfl htold) (ed_var (i := 4) rfl hdue) (rd_neD sld.sh sld.sh))) (by rw [eqv_refl _ sld.1]; rfl)) (et_is (et_cmp (ed_op (ed_is (d' := .list []) (ed_lcD (K := K) (ds := (List.range n).map fun k : Nat => .int (x k)) (fun _ => false) (fun d => d) (ev_seqT (ed_var (i := 5) rfl htold)) (by rw [List.length_map, List.length_range]; omega) (fun _ => rfl) (fun d u B8 hmm e8 hu => ?_) (fun d u B8 hmm hp e8 hu => nomatch hp)) ?_) (ed_lst eds_nil) (rd_neD (x := .list []) (y := .list []) (by decide +kernel) (by decide +kernel)))) (by decide +kernel)) (et_is (et_not (et_val (ed_isi (ed_var (i := 5) rfl htold) (kit_tup _)))) rfl)) fun B6 H6 k6 e6 => ?_
    · obtain ⟨k, _, rfl⟩ := List.mem_map.mp hmm
      exact et_is (et_and (b := false) (c := false) (et_is (et_not (et_val (ed_F (z := .bool true) (eds_cons (ed_var (i := 6) rfl hu) eds_nil) ⟨_, rfl⟩ rfl))) rfl) fun h => nomatch h) rfl
    · rw [List.filter_eq_nil_iff.mpr (fun _ _ => by decide)]
      rfl
    have hg := hg.up e6
    have hm := upc_ins _ _ _ e6 hm
    have hdue := hdue.up e6
    have due0 : ∀ {F : Fm} {σ : L2.St} {B7 : Hp}, Ex B6 B7 → σ[4]? = some (some vd) → ED F K (tOp (rIx K) (tVar 4) (tC (.int 0))) σ B7 (.int (x 0)) := fun e7 h4 => ed_op (ed_var h4 (hdue.up e7)) ed_int (rd_ixT (atI_nat (j := 0) (by rw [List.getElem?_map, List.getElem?_range n1]; rfl)))
    have evT : ∀ (kk : Int), (kk = 0 ∨ kk = 1) → ∀ {F : Fm} {σ : L2.St} {B7 : Hp}, Ex B6 B7 → σ[3]? = some (some vm) → EV F (tCall (spTo K CP) [] E0 (tCons (tC (.int kk)) (tCons (tVar 3) tNil))) σ B7 (fun v B => ∃ d, TD n rs kk d ∧ Dd K B v d) := fun kk hkk {F σ B7} e7 h3 B8 e8 H8 j8 Q8 q8 => ⟨vm, h3, B8, vm, n, rs, kk, rfl, j8.e, upc_ins _ _ _ (e7.trans e8) hm, g, hkk, fun v' B' H' d s htd hd => q8 v' B' H' s.pure (j8.pure s) ⟨d, htd, hd⟩⟩
    -- longest
    have s0 := told0_sm x
    refine qk_when k6 (et_is (et_cmp (ed_op (EV.imp (evT 0 (.inl rfl) (Ex.refl B6) rfl) fun v _ _ ⟨d, htd, hd⟩ => by
      rw [td0 g hx htd] at hd
      exact hd) (ev_if (b := x 0 == -1) (et_is (et_cmp (ed_op (due0 (Ex.refl B6) rfl) (ed_neg (K := K) (ed_int (i := 1))) (rd_eqD rfl rfl))) (eqv_int _ _)) (fun hb => ed_is (ed_tup (eds_cons ed_str (eds_cons ed_str eds_nil))) (show _ = told0D x by
        unfold told0D
        rw [if_pos (beq_iff_eq.mp hb)])) (fun hb => ed_is (ed_tup (eds_cons ed_str (eds_cons (d := lgD x) (ev_if (b := x 0 == -2) (et_is (et_cmp (ed_op (due0 (Ex.refl B6) rfl) (ed_neg (K := K) (ed_int (i := 2))) (rd_eqD rfl rfl))) (eqv_int _ _)) (fun h2 => ed_is ed_non (by unfold lgD; rw [if_pos (beq_iff_eq.mp h2)])) (fun h2 => ed_is (due0 (Ex.refl B6) rfl) (by unfold lgD; rw [if_neg (by simpa using h2)]))) eds_nil))) (show _ = told0D x by
        unfold told0D
        rw [if_neg (by simpa using hb)]))) (rd_neD s0.sh s0.sh))) (by rw [eqv_refl _ s0.1]; rfl)) fun B7 H7 k7 e7 => ?_
    -- found
    refine qk_asg k7 (evT 1 (.inr rfl) e7 rfl) fun vf B8 H8 k8 e8 ⟨df, htd, hf⟩ => ?_
    have e68 := e7.trans e8
    have hg := hg.up e68
    have leng : ∀ {F : Fm} {σ : L2.St} {B9 : Hp}, Ex B8 B9 → σ[2]? = some (some vg) → ED F K (tCB (fun xs H Q => ∃ x n, xs = [x] ∧ LenV K x H n ∧ Q (.int (n : Nat)) H) (tCons (tOp (rIx K) (tVar 2) (tC (.int 1))) tNil)) σ B9 (.int ((rs.length : Nat) : Int)) := fun e9 h2 => ev_cb (eds_cons (ed_op (ed_var h2 (hg.up e9)) ed_int (rd_ixT at2_1)) eds_nil) (rc_len rfl)
    -- steps
    refine qk_asg (P0 := DD K (.list ((List.range rs.length).map fun k : Nat => .tuple [.int (k : Int), .int 0]))) k8 (ed_is (ed_lcR (K := K) (n := ((rs.length : Nat) : Int)) (fun _ => true) (fun k : Nat => .tuple [.int (k : Int), .int 0]) (eds_cons (leng (Ex.refl B8) rfl) eds_nil) ⟨by omega, by omega⟩ (fun _ => rfl) (fun s B4 hs e4 => et_yes) (fun s B4 hs _ e4 => ed_tup (eds_cons (ed_var (i := 8) rfl (.int (s : Int))) (eds_cons ed_int eds_nil)))) (by rw [List.filter_eq_self.mpr (fun _ _ => rfl)]; rfl)) fun vq B9 H9 k9 e9 hst => ?_
    have sst : Rws ((List.range rs.length).map fun k : Nat => PyData.tuple [.int (k : Int), .int 0]) := fun d hd => by
      obtain ⟨k, _, rfl⟩ := List.mem_map.mp hd
      exact toD_sm (s := ((k : Int), 0)) (n := 48)
    -- values
    refine wq_lstA (K := K) (C := Sm 60) (i := 10) (ow_nil (F := Fm.box p) k9) (al_cons (al_e (ed_tup eds_nil) (Rws.tup fun d hd => nomatch hd)) (al_cons (al_e ed_non sm_none) (al_cons (al_e (ed_int (i := 0)) sm_int) (al_cons (al_e (ed_tup (eds_cons (ed_tup (eds_cons (ed_int (i := 0)) (eds_cons (ed_int (i := 0)) eds_nil))) eds_nil)) (Rws.tup fun d hd => by
      rw [List.mem_singleton.mp hd]
      exact toD_sm (s := (0, 0)) (n := 48))) (al_cons (al_e (ev_cb (eds_cons (ed_slL (ed_var (i := 9) rfl hst) eo_none (eo_some (K := K) ed_int)) eds_nil) rc_tupL) (sst.cut _ _).tup) (al_cons (al_e (ed_tup (eds_cons (ed_tup (eds_cons (ed_int (i := 0)) (eds_cons (ed_bl (b := true)) eds_nil))) eds_nil)) (Rws.tup fun d hd => by
      rw [List.mem_singleton.mp hd]
      refine sm_tup (n := 49) fun y hy => ?_
      simp only [List.mem_cons, List.not_mem_nil, or_false] at hy
      rcases hy with rfl | rfl
      · exact sm_int
      · exact sm_bool)) (al_cons (al_e (ed_tup (eds_cons (ed_lst (eds_cons (ed_int (i := 0)) (eds_cons (ed_int (i := 0)) eds_nil))) eds_nil)) (Rws.tup fun d hd => by
      rw [List.mem_singleton.mp hd]
      refine sm_lst (n := 49) fun y hy => ?_
      simp only [List.mem_cons, List.not_mem_nil, or_false] at hy
      rcases hy with rfl | rfl <;> exact sm_int)) al_nil))))))) (by decide) fun na xs ds B10 H10 w10 e10 gx hal => ?_
    have e910 := e9.trans e10
    have e610 := e68.trans e910
    have hg := hg.up e910
    have hm := upc_ins _ _ _ e610 hm
    have hf := hf.up e910
    refine ⟨fun σ' H' => ∃ o6 na vs ds B', σ' = [some (.ref a), some (.ref p), some vg, some vm, some vd, some vt, o6, some vf, none, some vq, some (.ref na), none, none] ∧ Ex B10 B' ∧ Ow (Fm.box p) B9 H9 B' H' [(na, .lst vs)] ∧ DdAll K B' vs ds ∧ ds.length ≤ 16 ∧ ∀ d ∈ ds, Sm 60 d, ?_, ?_⟩
    · refine ws_if w10 (b := x 0 == -2) (et_is (et_cmp (ed_op (due0 e610 rfl) (ed_neg (K := K) (ed_int (i := 2))) (rd_eqD rfl rfl))) (eqv_int _ _)) (fun hb B11 H11 w11 e11 => ?_) (fun hb B11 H11 w11 e11 => ?_)
      · have h2 : x 0 = -2 := beq_iff_eq.mp hb
        obtain ⟨dl, hdl, rfl⟩ : ∃ dl, LpG n rs dl ∧ df = .tuple [.str "told", dl] := by
          obtain ⟨y, hy, h⟩ := htd
          have e : y 0 = x 0 := hy.uniq g hx 0 ⟨Int.le_refl 0, by omega⟩
          rcases h with ⟨h0, _⟩ | ⟨h0, _⟩ | ⟨_, _, h3⟩ | ⟨_, h3, _⟩
          · cases h0
          · cases h0
          · exact h3
          · omega
        obtain ⟨R, rfl, hR9, hRst⟩ := hdl.ex
        have sR := rws_loop R
        have sR2 := loop_sm2 g hR9 hRst
        have hRne : (R.map toD) ≠ [] := fun z => by
          have := hdl.ok
          rw [z] at this
          cases this
        have sf : Sm 60 (.tuple [.str "told", .tuple (R.map toD)]) := told_sh (.inl rfl) (Sm.le (sm_tup sR) (by decide))
        have hf := hf.up e11
        have hg := hg.up e11
        have hm := upc_ins _ _ _ e11 hm
        have again : ∀ d, TD n rs 1 d → d = .tuple [.str "told", .tuple (R.map toD)] := fun d hd => by
          obtain ⟨y, hy, h⟩ := hd
          have e : y 0 = x 0 := hy.uniq g hx 0 ⟨Int.le_refl 0, by omega⟩
          rcases h with ⟨h0, _⟩ | ⟨h0, _⟩ | ⟨_, _, dl, h3, rfl⟩ | ⟨_, h3, _⟩
          · cases h0
          · cases h0
          · rw [h3.lp.uniq hdl.lp]
          · omega
        refine wq_when (b := false) w11 (PW_or3 (et_is (et_cmp (ed_op (ed_op (ed_var (i := 7) rfl hf) ed_int (rd_ixT at2_0)) ed_str (rd_neD (by decide +kernel) (by decide +kernel)))) (by decide +kernel)) (et_is (et_not (et_val (K := K) (b := loopB n rs (.tuple (R.map toD))) (fun B12 e12 H12 j12 Q12 q12 => ⟨vg, rfl, ed_op (K := K) (ed_var (i := 7) rfl hf) ed_int (rd_ixT at2_1) B12 e12 H12 j12 _ fun v13 B13 H13 s13 j13 h13 => ⟨B13, vg, v13, n, rs, _, rfl, j13.e, hg.up (e12.trans s13.bb), g, h13, Sm.le (sm_tup sR) (by decide), fun B' H' s => q12 _ B' H' (s13.trans s.pure) (j13.pure s) (.bl _)⟩⟩))) (by rw [hdl.ok]; rfl)) (et_is (et_cmp (ed_op (x := .tuple [.str "told", .tuple (R.map toD)]) (fun B12 e12 H12 j12 Q12 q12 => ⟨vg, rfl, B12, vg, _, _, rfl, j12.e, hg.up e12, gr_kept n1 n8 hne G, fun v' B' H' s gi => ⟨B', v', n, rs, 1, rfl, s.bh, gi, g, .inr rfl, fun v2 B2 H2 d s2 htd hd => q12 v2 B2 H2 (s.pure.trans s2.pure) ((j12.pure s).pure s2) (by rw [again d htd] at hd; exact hd)⟩⟩) (ed_var (i := 7) rfl hf) (rd_neD sf.sh sf.sh))) (by rw [eqv_refl _ sf.1]; rfl))) (fun h => nomatch h) (fun _ B12 H12 w12 e12 => ?_)
        have hf := hf.up e12
        refine wq_asg (P := DD K (.tuple (R.map toD))) (i := 6) w12 (ed_op (ed_var (i := 7) rfl hf) ed_int (rd_ixT at2_1)) fun vo B13 H13 w13 e13 hone => ?_
        have gx := gx.up ((e11.trans e12).trans e13)
        refine ws_addA (K := K) (C := Sm 60) (n := 9) (i := 10) w13 rfl gx (ev_lstA (al_cons (al_e (ed_var (i := 6) rfl hone) sR.tup) (al_cons (al_e (ed_op (ed_slT (ed_var (i := 6) rfl hone) (eo_some (K := K) ed_int) eo_none) (ed_slT (ed_var (i := 6) rfl hone) eo_none (eo_some (K := K) ed_int)) (rd_addT (by
            have h1 := cutL_len (R.map toD) (some 1) none
            have h2 := cutL_len (R.map toD) none (some 1)
            rw [List.length_map] at h1 h2
            omega))) ((sR.cut _ _).app (sR.cut _ _)).tup)
          (al_cons (al_e (ed_op (ed_var (i := 6) rfl hone) (ed_var (i := 6) rfl hone) (rd_addT (by rw [List.length_map]; omega))) (sR.app sR).tup) (al_cons (al_e (ed_slT (ed_var (i := 6) rfl hone) (eo_some (K := K) ed_int) eo_none) (sR.cut _ _).tup) (al_cons (al_e (ed_rev (ed_var (i := 6) rfl hone)) (Rws.tup fun d hd => sR d (List.mem_reverse.mp hd))) (al_cons (al_e (ev_cb (eds_cons (ed_var (i := 6) rfl hone) eds_nil) rc_lstT) sR.lst) (al_cons (ev_spoil (i := 1) (j := 6) rfl rfl hone sR2) (al_cons (ev_spoil (i := 1) (j := 6) rfl rfl hone sR2) (al_cons (al_e (ed_op (ed_var (i := 6) rfl hone) (ed_int (i := 91)) (rd_rep hRne (by decide) (by decide) (by rw [List.length_map]; omega))) (sR.rep _).tup) al_nil))))))))) (by decide)) (by rw [hal.1]; decide) fun na' vs' es B14 H14 w14 e14 g14 hal2 => ?_
        refine ⟨_, na', vs', ds ++ es, B14, rfl, ((e11.trans e12).trans e13).trans e14, w14, g14, by rw [List.length_append, hal.1, hal2.1]; decide, fun d hd => ?_⟩
        rcases List.mem_append.mp hd with hd | hd
        · exact hal.2 d hd
        · exact hal2.2 d hd
      · have h2 : x 0 ≠ -2 := by simpa using hb
        obtain rfl : df = .tuple [.str "undefined", .str "loop"] := by
          obtain ⟨y, hy, h⟩ := htd
          have e : y 0 = x 0 := hy.uniq g hx 0 ⟨Int.le_refl 0, by omega⟩
          rcases h with ⟨h0, _⟩ | ⟨h0, _⟩ | ⟨_, h3, _⟩ | ⟨_, _, h3⟩
          · cases h0
          · cases h0
          · omega
          · exact h3
        have sf : Sm 60 (.tuple [.str "undefined", .str "loop"]) := told_sh (.inr rfl) (sm_str (by decide +kernel))
        refine ws_if (b := false) w11 (et_is (et_cmp (ed_op (ed_var (i := 7) rfl (hf.up e11)) (ed_tup (eds_cons ed_str (eds_cons ed_str eds_nil))) (rd_neD sf.sh sf.sh))) (by rw [eqv_refl _ sf.1]; rfl)) (fun h => nomatch h) (fun _ B12 H12 w12 e12 => ?_)
        have e1012 := e11.trans e12
        exact ⟨_, na, xs, ds, B12, rfl, e1012, w12, gx.up e1012, by rw [hal.1]; decide, hal.2⟩
    rintro σ' H11 ⟨o6, na, xs, ds, B11, rfl, e11, w11, gx, hdl, hds⟩
    have hg := hg.up e11
    have hm := upc_ins _ _ _ e11 hm
    have leng := fun {F : Fm} {σ : L2.St} {B12 : Hp} (e : Ex B11 B12) => leng (F := F) (σ := σ) (B9 := B12) ((e910.trans e11).trans e)
    -- drawn ones
    refine oq_rng1 (K := K) (F := Fm.box p) (n := 8) (j := 8) w11.k (eds_cons ed_int eds_nil) (by omega) (fun u σ' B' H' => (∃ o8 vs ds, σ' = [some (.ref a), some (.ref p), some vg, some vm, some vd, some vt, o6, some vf, o8, some vq, some (.ref na), none, none] ∧ Ow (Fm.box p) B9 H9 B' H' [(na, .lst vs)] ∧ DdAll K B' vs ds ∧ ds.length ≤ 16 + u ∧ ∀ d ∈ ds, Sm 60 d) ∧ Ex B11 B')
      (fun B12 H12 s12 k12 => ⟨⟨_, xs, ds, rfl, w11.pass s12 k12, gx.up s12.bb, hdl, hds⟩, s12.bb⟩) (fun Bc u σ' B12 H12 ec hu3 e12 hj => ?_) (fun σ' B12 H12 e12 hj => ?_)
    · obtain ⟨⟨o8, xs, ds, rfl, w12, gx, hdl, hds⟩, e1112⟩ := hj
      have hu : u < 8 := by omega
      refine ws_appX (K := K) (C := Sm 60) (i := 10) w12 rfl (EV.imp (ev_tupL (ev_lcRN (K := K) (N := 3) (C := Sm 50) ?_ (by decide) (fun _ => rfl) (fun i B13 e13 => ?_))) fun v _ _ ⟨es, ge, _, hes⟩ => ⟨_, ge, Rws.tup hes⟩) (by rw [gx.len]; omega) fun v d B13 H13 w13 e13 g13 hd13 => ⟨B13, e12.trans e13, ⟨_, _, ds ++ [d], rfl, w13, (gx.up e13).snoc g13, by rw [List.length_append, List.length_singleton]; omega, fun y hy => ?_⟩, e1112.trans e13⟩
      · exact fun B13 e13 H13 j13 Q13 q13 => evp_take (K := K) (p := p) (i := 1) (m := 3) rfl ed_int (by decide) (by decide) B13 e13 H13 j13 _ fun v14 B14 H14 s14 j14 ⟨t, ht, t0, t1⟩ => .inl ⟨1, t, rfl, dd_int ht, q13 _ B14 H14 s14 j14 ⟨1 + t, rfl, by omega, by omega⟩⟩
      · exact EV.imp (ev_tup2 (K := K) (Pa := fun d => ∃ t : Int, d = .int t) (Pb := fun d => ∃ t : Int, d = .int t) (EV.imp (evp_take (K := K) (i := 1) rfl (leng (e1112.trans e13) rfl) (by omega) (by omega)) fun v _ _ ⟨t, ht, _⟩ => ⟨_, ht, t, rfl⟩) (EV.imp (evp_take (K := K) (i := 1) (m := 2) rfl ed_int (by decide) (by decide)) fun v _ _ ⟨t, ht, _⟩ => ⟨_, ht, t, rfl⟩)) fun v _ _ ⟨y, z, hv, ⟨s, hs⟩, ⟨t, ht⟩⟩ => ⟨_, hv, by
          rw [hs, ht]
          exact toD_sm (s := (s, t)) (n := 48)⟩
      · rcases List.mem_append.mp hy with hy | hy
        · exact hds y hy
        · rw [List.mem_singleton.mp hy]
          exact hd13
    obtain ⟨⟨o8, xs, ds, rfl, w12, gx, hdl, hds⟩, e1112⟩ := hj
    obtain ⟨w13, e13, g13⟩ := w12.dropL gx (by omega)
    have e1113 := e1112.trans e13
    refine oq_forD (K := K) (F := Fm.box p) (g := gName 11) (ds := ds) w13.k (ev_seqL (ed_var (i := 10) rfl g13)) (fun i σ' B' H' => (∃ o11, σ' = [some (.ref a), some (.ref p), some vg, some vm, some vd, some vt, o6, some vf, o8, some vq, some (.ref na), o11, none]) ∧ Ex B11 B' ∧ Ok (Fm.box p) B' H') (fun i σ' B' H' ⟨_, _, k'⟩ => k'.e)
      (fun B14 H14 s14 k14 => ⟨⟨_, rfl⟩, e1113.trans s14.bb, k14⟩) (fun Bb i d v σ' B14 H14 hd ec e14 hv hj => ?_) (fun σ' B14 H14 e14 hj => ?_)
    · obtain ⟨⟨o11, rfl⟩, e1114, k14⟩ := hj
      dsimp only [gName]
      exact qk_if k14 (et_loops (i1 := 3) (i2 := 2) (i3 := 11) rfl rfl rfl (upc_ins _ _ _ e1114 hm) (hg.up e1114) g hv (hds d (List.mem_of_getElem? hd))) fun B15 H15 k15 e15 => ⟨B15, e14.trans e15, ⟨_, rfl⟩, e1114.trans e15, k15⟩
    exact q _

end
end K33

namespace K33
open PySem PySem.Spec PyProof.Rows L2 Evl Ex Dx StX
open PySem.PyData (strOk)

structure TFact (K : PySem.W.Frag) (x : Str) (L : List Str) : Prop where
  ex : ∃ W, PySem.W.nsIn K mainGlobals x = some (some (.ref W)) ∧ ∀ H, Dd K H (.ref W) (.tuple (L.map .str))
theorem tfact3 {K : PySem.W.Frag} {x a b c : Str} {W : Addr} {od : Option Addr} {n : Nat} {sl : Array (Option Value)} {ta tb tc : Tok} (h : PySem.W.nsIn K mainGlobals x = some (some (.ref W))) (l : K.lookup W = some ⟨.type "tuple", od, .seq #[.str a ta, .str b tb, .str c tc] n, sl⟩) (la : a.length ≤ 100 := by decide) (lb : b.length ≤ 100 := by decide) (lc : c.length ≤ 100 := by decide) : TFact K x [a, b, c] :=
  ⟨W, h, fun H => .tup (xs := [.str a, .str b, .str c]) (.inr ⟨_, _, _, l, rfl, rfl, by show 3 ≤ sizeLine; decide, .cons ⟨_, rfl⟩ (.cons ⟨_, rfl⟩ (.cons ⟨_, rfl⟩ .nil))⟩) (by show 3 ≤ sizeLine; decide) (.cons (.str _ (by rw [sizeLine_eq]; omega)) (.cons (.str _ (by rw [sizeLine_eq]; omega)) (.cons (.str _ (by rw [sizeLine_eq]; omega)) .nil)))⟩
theorem tfact2 {K : PySem.W.Frag} {x a b : Str} {W : Addr} {od : Option Addr} {n : Nat} {sl : Array (Option Value)} {ta tb : Tok} (h : PySem.W.nsIn K mainGlobals x = some (some (.ref W))) (l : K.lookup W = some ⟨.type "tuple", od, .seq #[.str a ta, .str b tb] n, sl⟩) (la : a.length ≤ 100 := by decide) (lb : b.length ≤ 100 := by decide) : TFact K x [a, b] :=
  ⟨W, h, fun H => .tup (xs := [.str a, .str b]) (.inr ⟨_, _, _, l, rfl, rfl, by show 2 ≤ sizeLine; decide, .cons ⟨_, rfl⟩ (.cons ⟨_, rfl⟩ .nil)⟩) (by show 2 ≤ sizeLine; decide) (.cons (.str _ (by rw [sizeLine_eq]; omega)) (.cons (.str _ (by rw [sizeLine_eq]; omega)) .nil))⟩
structure PFact (K : PySem.W.Frag) (CP : Addr) : Prop where
  cl : Cls K CP
  nk : NoAttr K CP "kinds"
  nr : NoAttr K CP "rules"
  ca : PySem.W.findIn K (.ref CP) "__class__" = some (some (.builtin "object.__class__"))
  sg : PySem.W.specialIn K (.builtin "object.__class__") "__get__" = some (some (.builtin "getset_descriptor.__get__"))
  tk : PySem.W.takesIn K (.builtin "object.__class__") = some true
  mo : PySem.W.mroIn K CP (.type "object") = some true
theorem pfact_mk {K : PySem.W.Frag} {CP : Addr} (pg : PySem.W.plainGet K CP Str.empty = true) (hd : PySem.W.hasDictIn K CP = true) (po : PySem.W.plainOver K CP = true) (sa : PySem.W.findIn K (.ref CP) "__setattr__" = some (some (.builtin "object.__setattr__")))
    (nk : PySem.W.findIn K (.ref CP) "kinds" = some none) (nr : PySem.W.findIn K (.ref CP) "rules" = some none) (ca : PySem.W.findIn K (.ref CP) "__class__" = some (some (.builtin "object.__class__"))) (sg : PySem.W.specialIn K (.builtin "object.__class__") "__get__" = some (some (.builtin "getset_descriptor.__get__")))
    (tk : PySem.W.takesIn K (.builtin "object.__class__") = some true) (mo : PySem.W.mroIn K CP (.type "object") = some true) : PFact K CP := ⟨⟨pg, hd, po, sa⟩, nk, nr, ca, sg, tk, mo⟩
def pairTab (K : PySem.W.Frag) (c0 c1 c2 CP cU : Addr) : Bool := decide (PySem.W.exmOne K (.ref c0) (.ref c0) = some true) && (decide (PySem.W.exmOne K (.ref c1) (.ref c0) = some false) && (decide (PySem.W.exmOne K (.ref c1) (.ref c1) = some true) && (decide (PySem.W.exmOne K (.ref c2) (.ref c0) = some false) && (decide (PySem.W.exmOne K (.ref c2) (.ref c1) = some false) && (decide (PySem.W.exmOne K (.ref c2) (.ref c2) = some true) && (decide (PySem.W.kitOne K (.ref CP) (.ref CP) = some true) && (decide (PySem.W.kitOne K (.type "tuple") (.ref CP) = some false) && (decide (PySem.W.exmOne K (.ref cU) (.ref cU) = some true)))))))))

theorem all_mk {l : PySem.W.OpenLaw} {w : World} {K : PySem.W.Frag} {h : Heap} {mg : Str → Option Value} {fa c0 c1 c2 cU G CP : Addr} {f_is_integer f_is_between f_is_word f_is_rule f_is_rules f_steps_of f_kinds_behind f_endless_kind f_part_kinds f_is_live f_live_kinds f_live_rules f_live_steps f_kinds_in_use f_kinds_in_order f_words_by f_lengths f_part_behind f_is_step f_loop_holds f_steps_from f_way_back f_longest f_loop f_law_box f_law_take f_law_pick f_law_whole f_law_is_numbers f_law_is_due f_law_unary f_law_back_kind f_law_spoilt f_law_shuffled f_law_grammar f_law_parts f_law_live f_law_below f_law_comes_back f_law_in_use f_law_lengths f_law_is_loop f_law_sparse f_law_made f_law_told f_law : Addr} {t_MOST_STEPS t_NOT_LIVE t_ENDLESS t_MOST_LETTERS t_MOST_KINDS t_MOST_RULES : Tok} (X : K.In h) (N : h.Ns mainGlobals mg) (hfa : mg "law" = some (.ref fa))
    (e0 : XFact K "InvalidNumber" "value" "InvalidNumber.__init__" s_InvalidNumber_init c0)
    (e1 : XFact K "InvalidRules" "value" "InvalidRules.__init__" s_InvalidRules_init c1)
    (e2 : XFact K "Endless" "kind" "Endless.__init__" s_Endless_init c2)
    (e3 : XFact K "Undefined" "what" "Undefined.__init__" s_Undefined_init cU)
    (g : GFact K "GraftError" G)
    (z_len : PySem.W.nsIn K mainGlobals "len" = some none)
    (z_abs : PySem.W.nsIn K mainGlobals "abs" = some none)
    (z_int : PySem.W.nsIn K mainGlobals "int" = some none)
    (z_str : PySem.W.nsIn K mainGlobals "str" = some none)
    (z_bool : PySem.W.nsIn K mainGlobals "bool" = some none)
    (z_tuple : PySem.W.nsIn K mainGlobals "tuple" = some none)
    (z_list : PySem.W.nsIn K mainGlobals "list" = some none)
    (z_all : PySem.W.nsIn K mainGlobals "all" = some none)
    (z_isinstance : PySem.W.nsIn K mainGlobals "isinstance" = some none)
    (z_range : PySem.W.nsIn K mainGlobals "range" = some none)
    (z_sum : PySem.W.nsIn K mainGlobals "sum" = some none)
    (z_any : PySem.W.nsIn K mainGlobals "any" = some none)
    (z_max : PySem.W.nsIn K mainGlobals "max" = some none)
    (z_min : PySem.W.nsIn K mainGlobals "min" = some none)
    (z_enumerate : PySem.W.nsIn K mainGlobals "enumerate" = some none)
    (k_MOST_STEPS : PySem.W.nsIn K mainGlobals "MOST_STEPS" = some (some (.int 90 t_MOST_STEPS)))
    (k_NOT_LIVE : PySem.W.nsIn K mainGlobals "NOT_LIVE" = some (some (.int (-1) t_NOT_LIVE)))
    (k_ENDLESS : PySem.W.nsIn K mainGlobals "ENDLESS" = some (some (.int (-2) t_ENDLESS)))
    (k_MOST_LETTERS : PySem.W.nsIn K mainGlobals "MOST_LETTERS" = some (some (.int 3 t_MOST_LETTERS)))
    (k_MOST_KINDS : PySem.W.nsIn K mainGlobals "MOST_KINDS" = some (some (.int 40 t_MOST_KINDS)))
    (k_MOST_RULES : PySem.W.nsIn K mainGlobals "MOST_RULES" = some (some (.int 90 t_MOST_RULES)))
    (w_WORD : TFact K "WORD_SHAPES" ["left", "right"])
    (w_ONE : TFact K "ONE_SHAPES" ["same", "first", "last"])
    (w_TWO : TFact K "TWO_SHAPES" ["wrap", "ahead", "behind"])
    (pc : CFact K "Pairs" "Pairs.__init__" s_Pairs_init CP)
    (pl : PFact K CP)
    (d_is_integer : DFact K "is_integer" s_is_integer f_is_integer)
    (d_is_between : DFact K "is_between" s_is_between f_is_between)
    (d_is_word : DFact K "is_word" s_is_word f_is_word)
    (d_is_rule : DFact K "is_rule" s_is_rule f_is_rule)
    (d_is_rules : DFact K "is_rules" s_is_rules f_is_rules)
    (d_steps_of : DFact K "steps_of" s_steps_of f_steps_of)
    (d_kinds_behind : DFact K "kinds_behind" s_kinds_behind f_kinds_behind)
    (d_endless_kind : DFact K "endless_kind" s_endless_kind f_endless_kind)
    (d_part_kinds : DFact K "part_kinds" s_part_kinds f_part_kinds)
    (d_is_live : DFact K "is_live" s_is_live f_is_live)
    (d_live_kinds : DFact K "live_kinds" s_live_kinds f_live_kinds)
    (d_live_rules : DFact K "live_rules" s_live_rules f_live_rules)
    (d_live_steps : DFact K "live_steps" s_live_steps f_live_steps)
    (d_kinds_in_use : DFact K "kinds_in_use" s_kinds_in_use f_kinds_in_use)
    (d_kinds_in_order : DFact K "kinds_in_order" s_kinds_in_order f_kinds_in_order)
    (d_words_by : DFact K "words_by" s_words_by f_words_by)
    (d_lengths : DFact K "lengths" s_lengths f_lengths)
    (d_part_behind : DFact K "part_behind" s_part_behind f_part_behind)
    (d_is_step : DFact K "is_step" s_is_step f_is_step)
    (d_loop_holds : DFact K "loop_holds" s_loop_holds f_loop_holds)
    (d_steps_from : DFact K "steps_from" s_steps_from f_steps_from)
    (d_way_back : DFact K "way_back" s_way_back f_way_back)
    (d_longest : DFact K "longest" s_longest f_longest)
    (d_loop : DFact K "loop" s_loop f_loop)
    (d_law_box : DFact K "_law_box" s_law_box f_law_box)
    (d_law_take : DFact K "_law_take" s_law_take f_law_take)
    (d_law_pick : DFact K "_law_pick" s_law_pick f_law_pick)
    (d_law_whole : DFact K "_law_whole" s_law_whole f_law_whole)
    (d_law_is_numbers : DFact K "_law_is_numbers" s_law_is_numbers f_law_is_numbers)
    (d_law_is_due : DFact K "_law_is_due" s_law_is_due f_law_is_due)
    (d_law_unary : DFact K "_law_unary" s_law_unary f_law_unary)
    (d_law_back_kind : DFact K "_law_back_kind" s_law_back_kind f_law_back_kind)
    (d_law_spoilt : DFact K "_law_spoilt" s_law_spoilt f_law_spoilt)
    (d_law_shuffled : DFact K "_law_shuffled" s_law_shuffled f_law_shuffled)
    (d_law_grammar : DFact K "_law_grammar" s_law_grammar f_law_grammar)
    (d_law_parts : DFact K "_law_parts" s_law_parts f_law_parts)
    (d_law_live : DFact K "_law_live" s_law_live f_law_live)
    (d_law_below : DFact K "_law_below" s_law_below f_law_below)
    (d_law_comes_back : DFact K "_law_comes_back" s_law_comes_back f_law_comes_back)
    (d_law_in_use : DFact K "_law_in_use" s_law_in_use f_law_in_use)
    (d_law_lengths : DFact K "_law_lengths" s_law_lengths f_law_lengths)
    (d_law_is_loop : DFact K "_law_is_loop" s_law_is_loop f_law_is_loop)
    (d_law_sparse : DFact K "_law_sparse" s_law_sparse f_law_sparse)
    (d_law_made : DFact K "_law_made" s_law_made f_law_made)
    (d_law_told : DFact K "_law_told" s_law_told f_law_told)
    (d_law : DFact K "law" s_law f_law)
    (tb : pairTab K c0 c1 c2 CP cU = true) :
    ∃ fd : FuncData, (∀ (s : Shared) (v : Value), BindsTo s fd ⟨[v], []⟩ [("script", v)]) ∧ ∀ base : Heap, K.In base → base.Ns mainGlobals mg → FnOk l.prog w K mg base CX0 8 fa fd ["script"] (spLaw K) := by
  have e := hfa.symm.trans (PySem.W.mg_of X N d_law.a)
  cases e
  obtain ⟨fd, F⟩ := d_law.fn
  simp only [pairTab, Bool.and_eq_true, decide_eq_true_eq] at tb
  obtain ⟨q1, q2, q3, q4, q5, q6, q7, q8, q9⟩ := tb
  refine ⟨fd, fun s v => ?_, fun base hK hN => ?_⟩
  · obtain ⟨oc, od, kV, doc, pm, an, cdv, ct, osl, rfl, lk, hcd⟩ := F.ex
    exact .of_eq rfl
  · have gG : mg "GraftError" = some (.ref G) := PySem.W.mg_of X N g.a
    have TT : TC K mg :=
      { m_len := PySem.W.mg_none_of X N z_len,
        m_abs := PySem.W.mg_none_of X N z_abs,
        m_int := PySem.W.mg_none_of X N z_int,
        m_str := PySem.W.mg_none_of X N z_str,
        m_bool := PySem.W.mg_none_of X N z_bool,
        m_tuple := PySem.W.mg_none_of X N z_tuple,
        m_list := PySem.W.mg_none_of X N z_list,
        m_all := PySem.W.mg_none_of X N z_all,
        m_isinstance := PySem.W.mg_none_of X N z_isinstance,
        m_range := PySem.W.mg_none_of X N z_range,
        c_MOST_STEPS := ⟨_, PySem.W.mg_of X N k_MOST_STEPS⟩,
        c_NOT_LIVE := ⟨_, PySem.W.mg_of X N k_NOT_LIVE⟩,
        c_ENDLESS := ⟨_, PySem.W.mg_of X N k_ENDLESS⟩,
        c_MOST_LETTERS := ⟨_, PySem.W.mg_of X N k_MOST_LETTERS⟩,
        c_MOST_KINDS := ⟨_, PySem.W.mg_of X N k_MOST_KINDS⟩,
        c_MOST_RULES := ⟨_, PySem.W.mg_of X N k_MOST_RULES⟩,
        w_WORD := ⟨by obtain ⟨W, h1, h2⟩ := w_WORD.ex; exact ⟨W, PySem.W.mg_of X N h1, h2⟩⟩,
        w_ONE := ⟨by obtain ⟨W, h1, h2⟩ := w_ONE.ex; exact ⟨W, PySem.W.mg_of X N h1, h2⟩⟩,
        w_TWO := ⟨by obtain ⟨W, h1, h2⟩ := w_TWO.ex; exact ⟨W, PySem.W.mg_of X N h1, h2⟩⟩ }
    have T : TP l.prog w K mg base c0 c1 c2 CP :=
      { toTC := TT,
        x_InvalidNumber := e0.at X N (fun f1 fd F => ok_InvalidNumber F gG g.rd g.gi e0.oc e0.no) (fun f1 fd F => F.binds fun _ _ _ _ _ _ us hl => match us, hl with | [_, _], _ => rfl),
        x_InvalidRules := e1.at X N (fun f1 fd F => ok_InvalidRules F gG g.rd g.gi e1.oc e1.no) (fun f1 fd F => F.binds fun _ _ _ _ _ _ us hl => match us, hl with | [_, _], _ => rfl),
        x_Endless := e2.at X N (fun f1 fd F => ok_Endless F gG g.rd g.gi e2.oc e2.no) (fun f1 fd F => F.binds fun _ _ _ _ _ _ us hl => match us, hl with | [_, _], _ => rfl),
        g_Pairs := PySem.W.mg_of X N pc.a,
        cl := pl.cl,
        nk := pl.nk,
        nr := pl.nr,
        ca := pl.ca,
        sg := pl.sg,
        tk := pl.tk,
        mo := pl.mo,
        kt1 := q7,
        kt2 := q8,
        m00 := q1,
        m10 := q2,
        m11 := q3,
        m20 := q4,
        m21 := q5,
        m22 := q6 }
    have T2 : TU l.prog w K mg base c0 c1 c2 CP cU := { toTP := T, x_Undefined := e3.at X N (fun f1 fd F => ok_Undefined F gG g.rd g.gi e3.oc e3.no) (fun f1 fd F => F.binds fun _ _ _ _ _ _ us hl => match us, hl with | [_, _], _ => rfl), mU := q9 }
    have C1 : Callee l.prog w K mg base "is_integer" 1 ["value"] (spInt K) := d_is_integer.callee X N (fun fd F => ok_is_integer F TT.toTB) (fun fd F => F.binds fun _ _ _ _ _ _ us hl => match us, hl with | [_], _ => rfl)
    have C2 : Callee l.prog w K mg base "is_between" 2 ["value", "low", "high"] (spBetween K) := d_is_between.callee X N (fun fd F => ok_is_between F TT.toTB C1) (fun fd F => F.binds fun _ _ _ _ _ _ us hl => match us, hl with | [_, _, _], _ => rfl)
    have C3 : Callee l.prog w K mg base "is_word" 1 ["value"] (spF K pre1 fWord) := d_is_word.callee X N (fun fd F => ok_is_word F TT) (fun fd F => F.binds fun _ _ _ _ _ _ us hl => match us, hl with | [_], _ => rfl)
    have C4 : Callee l.prog w K mg base "is_rule" 3 ["value", "kinds"] (spF K (fun ds => ∃ d n, ds = [d, .int n]) fRule) := d_is_rule.callee X N (fun fd F => ok_is_rule F TT C2 C3) (fun fd F => F.binds fun _ _ _ _ _ _ us hl => match us, hl with | [_, _], _ => rfl)
    have C5 : Callee l.prog w K mg base "is_rules" 4 ["value", "kinds"] (spF K (fun ds => ∃ d n, ds = [d, .int n]) fRules) := d_is_rules.callee X N (fun fd F => ok_is_rules F TT C4) (fun fd F => F.binds fun _ _ _ _ _ _ us hl => match us, hl with | [_, _], _ => rfl)
    have C6 : Callee l.prog w K mg base "steps_of" 1 ["kinds", "rules"] (spF K preS fSteps) := d_steps_of.callee X N (fun fd F => ok_steps_of F TT) (fun fd F => F.binds fun _ _ _ _ _ _ us hl => match us, hl with | [_, _], _ => rfl)
    have C7 : Callee l.prog w K mg base "kinds_behind" 1 ["steps", "kind"] (spKB K) := d_kinds_behind.callee X N (fun fd F => ok_kinds_behind F TT) (fun fd F => F.binds fun _ _ _ _ _ _ us hl => match us, hl with | [_, _], _ => rfl)
    have C8 : Callee l.prog w K mg base "endless_kind" 2 ["steps"] (spEK K) := d_endless_kind.callee X N (fun fd F => ok_endless_kind F TT C7) (fun fd F => F.binds fun _ _ _ _ _ _ us hl => match us, hl with | [_], _ => rfl)
    have C9 : Callee l.prog w K mg base "part_kinds" 1 ["rule"] (spF K preRF fPts) := d_part_kinds.callee X N (fun fd F => ok_part_kinds F TT) (fun fd F => F.binds fun _ _ _ _ _ _ us hl => match us, hl with | [_], _ => rfl)
    have C10 : Callee l.prog w K mg base "is_live" 2 ["rule", "live"] (spF K preLive fLive) := d_is_live.callee X N (fun fd F => ok_is_live F TT C9) (fun fd F => F.binds fun _ _ _ _ _ _ us hl => match us, hl with | [_, _], _ => rfl)
    have C11 : Callee l.prog w K mg base "live_kinds" 3 ["pairs"] (spIns K CP fLvK) := d_live_kinds.callee X N (fun fd F => ok_live_kinds F T C10) (fun fd F => F.binds fun _ _ _ _ _ _ us hl => match us, hl with | [_], _ => rfl)
    have C12 : Callee l.prog w K mg base "live_rules" 3 ["pairs", "live"] (spLR K CP) := d_live_rules.callee X N (fun fd F => ok_live_rules F T C10) (fun fd F => F.binds fun _ _ _ _ _ _ us hl => match us, hl with | [_, _], _ => rfl)
    have C13 : Callee l.prog w K mg base "live_steps" 4 ["pairs", "live"] (spLS K CP) := d_live_steps.callee X N (fun fd F => ok_live_steps F T C9 C12) (fun fd F => F.binds fun _ _ _ _ _ _ us hl => match us, hl with | [_, _], _ => rfl)
    have C14 : Callee l.prog w K mg base "kinds_in_use" 2 ["steps"] (spKU K) := d_kinds_in_use.callee X N (fun fd F => ok_kinds_in_use F C7) (fun fd F => F.binds fun _ _ _ _ _ _ us hl => match us, hl with | [_], _ => rfl)
    have C15 : Callee l.prog w K mg base "kinds_in_order" 1 ["steps"] (spKO K) := d_kinds_in_order.callee X N (fun fd F => ok_kinds_in_order F TT) (fun fd F => F.binds fun _ _ _ _ _ _ us hl => match us, hl with | [_], _ => rfl)
    have C16 : Callee l.prog w K mg base "words_by" 2 ["rule", "told"] (spWB K) := d_words_by.callee X N (fun fd F => ok_words_by F TT (PySem.W.mg_none_of X N z_sum) C9) (fun fd F => F.binds fun _ _ _ _ _ _ us hl => match us, hl with | [_, _], _ => rfl)
    have C17 : Callee l.prog w K mg base "lengths" 5 ["pairs"] (spLen K CP) := d_lengths.callee X N (fun fd F => ok_lengths F T (PySem.W.mg_none_of X N z_any) (PySem.W.mg_none_of X N z_max) C11 C13 C7 C15 C12 C16) (fun fd F => F.binds fun _ _ _ _ _ _ us hl => match us, hl with | [_], _ => rfl)
    have C18 : Callee l.prog w K mg base "part_behind" 2 ["pairs", "step"] (spPB K CP) := d_part_behind.callee X N (fun fd F => ok_part_behind F T C9) (fun fd F => F.binds fun _ _ _ _ _ _ us hl => match us, hl with | [_, _], _ => rfl)
    have C19 : Callee l.prog w K mg base "is_step" 3 ["pairs", "live", "value"] (spIS K CP) := d_is_step.callee X N (fun fd F => ok_is_step F T C2 C9 C10) (fun fd F => F.binds fun _ _ _ _ _ _ us hl => match us, hl with | [_, _, _], _ => rfl)
    have C20 : Callee l.prog w K mg base "loop_holds" 5 ["pairs", "value"] (spLH K CP) := d_loop_holds.callee X N (fun fd F => ok_loop_holds F T C11 C19 C14 C13 C18) (fun fd F => F.binds fun _ _ _ _ _ _ us hl => match us, hl with | [_, _], _ => rfl)
    have C21 : Callee l.prog w K mg base "steps_from" 3 ["pairs", "live", "kind"] (spSF K CP) := d_steps_from.callee X N (fun fd F => ok_steps_from F T (PySem.W.mg_none_of X N z_enumerate) C9 C10) (fun fd F => F.binds fun _ _ _ _ _ _ us hl => match us, hl with | [_, _, _], _ => rfl)
    have C22 : Callee l.prog w K mg base "way_back" 4 ["pairs", "live", "kind"] (spBack K CP) := d_way_back.callee X N (fun fd F => ok_way_back F TT C21 C18) (fun fd F => F.binds fun _ _ _ _ _ _ us hl => match us, hl with | [_, _, _], _ => rfl)
    have C23 : CalleeX l.prog w K mg base "longest" 6 ["pairs"] (spLg K CP cU) := ⟨by obtain ⟨fd, F⟩ := d_longest.fn; exact ⟨_, fd, ok_longest F T2 C17, PySem.W.mg_of X N d_longest.a, F.kp, F.binds fun _ _ _ _ _ _ us hl => match us, hl with | [_], _ => rfl⟩⟩
    have C24 : CalleeX l.prog w K mg base "loop" 6 ["pairs"] (spLp K CP cU) := ⟨by obtain ⟨fd, F⟩ := d_loop.fn; exact ⟨_, fd, ok_loop F T2 C17 C11 C13 C7 C14 C22, PySem.W.mg_of X N d_loop.a, F.kp, F.binds fun _ _ _ _ _ _ us hl => match us, hl with | [_], _ => rfl⟩⟩
    have C25 : Callee l.prog w K mg base "_law_box" 1 ["script", "k"] (spBoxN K) := d_law_box.callee X N (fun fd F => ok_box F TT.toTB) (fun fd F => F.binds fun _ _ _ _ _ _ us hl => match us, hl with | [_, _], _ => rfl)
    have C26 : Callee l.prog w K mg base "_law_take" 1 ["box", "many"] (spTake K) := d_law_take.callee X N (fun fd F => ok_take F TT.toTB) (fun fd F => F.binds fun _ _ _ _ _ _ us hl => match us, hl with | [_, _], _ => rfl)
    have C27 : Callee l.prog w K mg base "_law_pick" 2 ["box", "some"] (spPick K) := d_law_pick.callee X N (fun fd F => ok_pick F TT.toTB C26) (fun fd F => F.binds fun _ _ _ _ _ _ us hl => match us, hl with | [_, _], _ => rfl)
    have C28 : Callee l.prog w K mg base "_law_whole" 1 ["value"] (spInt K) := d_law_whole.callee X N (fun fd F => ok_law_whole F TT) (fun fd F => F.binds fun _ _ _ _ _ _ us hl => match us, hl with | [_], _ => rfl)
    have C29 : Callee l.prog w K mg base "_law_is_numbers" 2 ["value", "many"] (spF K (fun ds => ∃ d n, ds = [d, .int n] ∧ Sm 60 d) fNums) := d_law_is_numbers.callee X N (fun fd F => ok_law_is_numbers F TT C28) (fun fd F => F.binds fun _ _ _ _ _ _ us hl => match us, hl with | [_, _], _ => rfl)
    have C30 : Callee l.prog w K mg base "_law_is_due" 1 ["told", "due"] (spF K (fun ds => ∃ a b, ds = [.bool a, .bool b]) fIs) := d_law_is_due.callee X N (fun fd F => ok_law_is_due F TT) (fun fd F => F.binds fun _ _ _ _ _ _ us hl => match us, hl with | [_, _], _ => rfl)
    have C31 : Callee l.prog w K mg base "_law_unary" 1 ["rules"] (spF K preUn fUn) := d_law_unary.callee X N (fun fd F => ok_law_unary F TT) (fun fd F => F.binds fun _ _ _ _ _ _ us hl => match us, hl with | [_], _ => rfl)
    have C32 : Callee l.prog w K mg base "_law_back_kind" 1 ["steps", "kinds"] (spF K preBack fBack) := d_law_back_kind.callee X N (fun fd F => ok_law_back_kind F TT) (fun fd F => F.binds fun _ _ _ _ _ _ us hl => match us, hl with | [_, _], _ => rfl)
    have C33 : Callee l.prog w K mg base "_law_spoilt" 3 ["box", "value", "deep"] (spSpoil K 0) := d_law_spoilt.callee X N (fun fd F => ok_spoilt0 F TT C26 C27 C28) (fun fd F => F.binds fun _ _ _ _ _ _ us hl => match us, hl with | [_, _, _], _ => rfl)
    have C34 : Callee l.prog w K mg base "_law_spoilt" 4 ["box", "value", "deep"] (spSpoil K 1) := d_law_spoilt.callee X N (fun fd F => ok_spoiltS 0 F TT C26 C27 C28 C33 (by decide)) (fun fd F => F.binds fun _ _ _ _ _ _ us hl => match us, hl with | [_, _, _], _ => rfl)
    have C35 : Callee l.prog w K mg base "_law_spoilt" 5 ["box", "value", "deep"] (spSpoil K 2) := d_law_spoilt.callee X N (fun fd F => ok_spoiltS 1 F TT C26 C27 C28 C34 (by decide)) (fun fd F => F.binds fun _ _ _ _ _ _ us hl => match us, hl with | [_, _, _], _ => rfl)
    have C36 : Callee l.prog w K mg base "_law_shuffled" 2 ["box", "some"] (spShuf K) := d_law_shuffled.callee X N (fun fd F => ok_shuffled F TT C26) (fun fd F => F.binds fun _ _ _ _ _ _ us hl => match us, hl with | [_, _], _ => rfl)
    have C37 : Callee l.prog w K mg base "_law_grammar" 3 ["script", "most"] (spGram K) := d_law_grammar.callee X N (fun fd F => ok_grammar F TT C25 C26 C27 C31 C32 C36) (fun fd F => F.binds fun _ _ _ _ _ _ us hl => match us, hl with | [_, _], _ => rfl)
    have C38 : Callee l.prog w K mg base "_law_parts" 1 ["rule"] (spF K preRF fPts) := d_law_parts.callee X N (fun fd F => ok_law_parts F TT) (fun fd F => F.binds fun _ _ _ _ _ _ us hl => match us, hl with | [_], _ => rfl)
    have C39 : Callee l.prog w K mg base "_law_live" 2 ["grammar"] (spF K preGr fLLv) := d_law_live.callee X N (fun fd F => ok_law_live F TT C38) (fun fd F => F.binds fun _ _ _ _ _ _ us hl => match us, hl with | [_], _ => rfl)
    have C40 : Callee l.prog w K mg base "_law_below" 1 ["steps", "kind", "kinds"] (spF K preB fBel) := d_law_below.callee X N (fun fd F => ok_law_below F TT) (fun fd F => F.binds fun _ _ _ _ _ _ us hl => match us, hl with | [_, _, _], _ => rfl)
    have C41 : Callee l.prog w K mg base "_law_comes_back" 2 ["steps", "kind", "kinds"] (spF K preB fBack2) := d_law_comes_back.callee X N (fun fd F => ok_law_comes_back F C40) (fun fd F => F.binds fun _ _ _ _ _ _ us hl => match us, hl with | [_, _, _], _ => rfl)
    have C42 : Callee l.prog w K mg base "_law_in_use" 3 ["grammar"] (spF K preGr fUse) := d_law_in_use.callee X N (fun fd F => ok_law_in_use F TT C38 C39 C40) (fun fd F => F.binds fun _ _ _ _ _ _ us hl => match us, hl with | [_], _ => rfl)
    have C43 : Callee l.prog w K mg base "_law_lengths" 3 ["grammar"] (spLL K) := d_law_lengths.callee X N (fun fd F => ok_law_lengths F TT (PySem.W.mg_none_of X N z_sum) (PySem.W.mg_none_of X N z_max) (PySem.W.mg_none_of X N z_min) C38 C39 C40 C41) (fun fd F => F.binds fun _ _ _ _ _ _ us hl => match us, hl with | [_], _ => rfl)
    have C44 : Callee l.prog w K mg base "_law_is_loop" 4 ["grammar", "value"] (spIL K) := d_law_is_loop.callee X N (fun fd F => ok_law_is_loop F TT C38 C39 C29 C42) (fun fd F => F.binds fun _ _ _ _ _ _ us hl => match us, hl with | [_, _], _ => rfl)
    have C45 : Callee l.prog w K mg base "_law_sparse" 3 ["box"] (spSpa K) := d_law_sparse.callee X N (fun fd F => ok_law_sparse F TT (PySem.W.mg_none_of X N z_min) C26 C27 C31 C32) (fun fd F => F.binds fun _ _ _ _ _ _ us hl => match us, hl with | [_], _ => rfl)
    obtain ⟨fI, fdI, M, FI⟩ := pc.made -- PAIRSLINE
    have bP : L2.Binds K fdI ["self", "kinds", "rules"] [] := FI.binds fun _ _ _ _ _ _ us hl => match us, hl with | [_, _, _], _ => rfl
    have GP : FnOk l.prog w K mg base (L2.CX l.prog w) 5 fI fdI ["self", "kinds", "rules"] (spPairs K CP c0 c1 c2) := ok_pairs FI T C2 C5 C8 C6
    have C46 : Callee l.prog w K mg base "_law_made" 7 ["grammar"] (spMade K CP) := d_law_made.callee X N (fun fd F => ok_law_made F T M GP bP) (fun fd F => F.binds fun _ _ _ _ _ _ us hl => match us, hl with | [_], _ => rfl)
    have C47 : Callee l.prog w K mg base "_law_told" 7 ["which", "made"] (spTo K CP) := d_law_told.callee X N (fun fd F => ok_law_told F T2 C23 C24) (fun fd F => F.binds fun _ _ _ _ _ _ us hl => match us, hl with | [_, _], _ => rfl)
    exact ok_law F T2 C25 C26 C37 C45 C46 C43 C17 C28 C47 C44 C35 C30 C20
theorem walk {l : PySem.W.OpenLaw} {q : Program} {loose : List Str} {XP : (Str → Option Value) → Heap → Prop} {YP : World → Heap → Prop} {d : DefRec} {K : Params → PySem.W.Frag} (hn : l.most = some 63) (hdf : d.params.defaults = [])
    (hY : ∀ (w : World) (h : Heap), YP w h → (K w.params).In h)
    (F : ∀ (w : World) (mg : Str → Option Value) (fa : Addr) (h : Heap), (K w.params).In h → h.Ns mainGlobals mg → mg d.name = some (.ref fa) →
      ∃ fd : FuncData, (∀ (s : Shared) (u : Value), BindsTo s fd ⟨[u], []⟩ [("script", u)]) ∧ ∀ base : Heap, (K w.params).In base → base.Ns mainGlobals mg → FnOk l.prog w (K w.params) mg base CX0 8 fa fd ["script"] (spLaw (K w.params))) :
    PySem.W.WalkO q loose XP YP l.row.toRowW d [] (fun f vs => PySem.call f vs) :=
  L2.walk_of (n := 63) (k := 8) (x := "script") (CX := fun _ => CX0) (sp := fun w => spLaw (K w.params)) hn (by decide) hdf ⟨rfl, by decide, by decide⟩ hY F (fun _ _ a ns hl _ hS => ⟨a, ns, rfl, hS, hl, fun _ => rfl⟩) fun _ _ _ _ _ z => z
end K33

open PySem PySem.W PyProof.Rows Dx in
set_option maxRecDepth 100000 in
set_option maxHeartbeats 0 in
theorem PySem.Challenge.cw_treestacks_k33_whole_lengths_and_loops_holds : PySem.Challenge.rw_treestacks_k33_whole_lengths_and_loops.Holds := by
  w_on; o_law; k_head; (case hw => w_witness2)
  k_fill
  refine K33.walk (l := PySem.Challenge.rw_treestacks_k33_whole_lengths_and_loops) rfl rfl (fun w h Y => PySem.W.kIn_of Y) ?F
  case F =>
    intro w mg fa h KX G hmg
    refine' K33.all_mk KX G hmg ?e0 ?e1 ?e2 ?e3 ?g ?z_len ?z_abs ?z_int ?z_str ?z_bool ?z_tuple ?z_list ?z_all ?z_isinstance ?z_range ?z_sum ?z_any ?z_max ?z_min ?z_enumerate ?k_MOST_STEPS ?k_NOT_LIVE ?k_ENDLESS ?k_MOST_LETTERS ?k_MOST_KINDS ?k_MOST_RULES ?w_WORD ?w_ONE ?w_TWO ?pc ?pl ?d_is_integer ?d_is_between ?d_is_word ?d_is_rule ?d_is_rules ?d_steps_of ?d_kinds_behind ?d_endless_kind ?d_part_kinds ?d_is_live ?d_live_kinds ?d_live_rules ?d_live_steps ?d_kinds_in_use ?d_kinds_in_order ?d_words_by ?d_lengths ?d_part_behind ?d_is_step ?d_loop_holds ?d_steps_from ?d_way_back ?d_longest ?d_loop ?d_law_box ?d_law_take ?d_law_pick ?d_law_whole ?d_law_is_numbers ?d_law_is_due ?d_law_unary ?d_law_back_kind ?d_law_spoilt ?d_law_shuffled ?d_law_grammar ?d_law_parts ?d_law_live ?d_law_below ?d_law_comes_back ?d_law_in_use ?d_law_lengths ?d_law_is_loop ?d_law_sparse ?d_law_made ?d_law_told ?d_law ?tb
    (case e0 => (refine' xfact_mk ?aC ?xL ?hbm ?sa ?ga ?gg ?nb ?a1 ?t1 ?l1 ?c1 ?k1 ?kC ?eC ?tC ?hC ?iC ?ca ?sg ?tk ?mo; (case aC => k_is); (case xL => k_is); (case hbm => decide +kernel); (case sa => k_is); (case ga => k_is); (case gg => k_is); (case nb => k_is); (case a1 => k_is); (case t1 => k_is); (case l1 => k_is); (case c1 => k_is); (case k1 => k_is); (case kC => k_is); (case eC => k_is); (case tC => k_is); (case hC => k_is); (case iC => k_is); (case ca => k_is); (case sg => k_is); (case tk => k_is); (case mo => k_is)))
    (case e1 => (refine' xfact_mk ?aC ?xL ?hbm ?sa ?ga ?gg ?nb ?a1 ?t1 ?l1 ?c1 ?k1 ?kC ?eC ?tC ?hC ?iC ?ca ?sg ?tk ?mo; (case aC => k_is); (case xL => k_is); (case hbm => decide +kernel); (case sa => k_is); (case ga => k_is); (case gg => k_is); (case nb => k_is); (case a1 => k_is); (case t1 => k_is); (case l1 => k_is); (case c1 => k_is); (case k1 => k_is); (case kC => k_is); (case eC => k_is); (case tC => k_is); (case hC => k_is); (case iC => k_is); (case ca => k_is); (case sg => k_is); (case tk => k_is); (case mo => k_is)))
    (case e2 => (refine' xfact_mk ?aC ?xL ?hbm ?sa ?ga ?gg ?nb ?a1 ?t1 ?l1 ?c1 ?k1 ?kC ?eC ?tC ?hC ?iC ?ca ?sg ?tk ?mo; (case aC => k_is); (case xL => k_is); (case hbm => decide +kernel); (case sa => k_is); (case ga => k_is); (case gg => k_is); (case nb => k_is); (case a1 => k_is); (case t1 => k_is); (case l1 => k_is); (case c1 => k_is); (case k1 => k_is); (case kC => k_is); (case eC => k_is); (case tC => k_is); (case hC => k_is); (case iC => k_is); (case ca => k_is); (case sg => k_is); (case tk => k_is); (case mo => k_is)))
    (case e3 => (refine' xfact_mk ?aC ?xL ?hbm ?sa ?ga ?gg ?nb ?a1 ?t1 ?l1 ?c1 ?k1 ?kC ?eC ?tC ?hC ?iC ?ca ?sg ?tk ?mo; (case aC => k_is); (case xL => k_is); (case hbm => decide +kernel); (case sa => k_is); (case ga => k_is); (case gg => k_is); (case nb => k_is); (case a1 => k_is); (case t1 => k_is); (case l1 => k_is); (case c1 => k_is); (case k1 => k_is); (case kC => k_is); (case eC => k_is); (case tC => k_is); (case hC => k_is); (case iC => k_is); (case ca => k_is); (case sg => k_is); (case tk => k_is); (case mo => k_is)))
    (case g => (refine' gfact_mk ?a ?r1 ?r2 ?gi ?eC ?hC ?tC; (case a => k_is); (case r1 => k_is); (case r2 => k_is); (case gi => k_is); (case eC => k_is); (case hC => k_is); (case tC => k_is)))
    (case z_len => k_is)
    (case z_abs => k_is)
    (case z_int => k_is)
    (case z_str => k_is)
    (case z_bool => k_is)
    (case z_tuple => k_is)
    (case z_list => k_is)
    (case z_all => k_is)
    (case z_isinstance => k_is)
    (case z_range => k_is)
    (case z_sum => k_is)
    (case z_any => k_is)
    (case z_max => k_is)
    (case z_min => k_is)
    (case z_enumerate => k_is)
    (case k_MOST_STEPS => k_is)
    (case k_NOT_LIVE => k_is)
    (case k_ENDLESS => k_is)
    (case k_MOST_LETTERS => k_is)
    (case k_MOST_KINDS => k_is)
    (case k_MOST_RULES => k_is)
    (case w_WORD => (refine' K33.tfact2 ?h ?l (by decide) (by decide); (case h => k_is); (case l => k_is)))
    (case w_ONE => (refine' K33.tfact3 ?h ?l (by decide) (by decide) (by decide); (case h => k_is); (case l => k_is)))
    (case w_TWO => (refine' K33.tfact3 ?h ?l (by decide) (by decide) (by decide); (case h => k_is); (case l => k_is)))
    (case pc => (refine' cfact_mk ?a ?mk ?a1 ?i1 ?kc ?l1 ?c1 ?k1; (case a => k_is); (case mk => k_is); (case a1 => k_is); (case i1 => k_is); (case kc => k_is); (case l1 => k_is); (case c1 => k_is); (case k1 => k_is)))
    (case pl => (refine' K33.pfact_mk ?pg ?hd ?po ?sa ?nk ?nr ?ca ?sg ?tk ?mo; (case pg => k_is); (case hd => k_is); (case po => k_is); (case sa => k_is); (case nk => k_is); (case nr => k_is); (case ca => k_is); (case sg => k_is); (case tk => k_is); (case mo => k_is)))
    (case d_is_integer => (refine' dfact_mk ?a ?l1 ?c1 ?k1; (case a => k_is); (case l1 => k_is); (case c1 => k_is); (case k1 => k_is)))
    (case d_is_between => (refine' dfact_mk ?a ?l1 ?c1 ?k1; (case a => k_is); (case l1 => k_is); (case c1 => k_is); (case k1 => k_is)))
    (case d_is_word => (refine' dfact_mk ?a ?l1 ?c1 ?k1; (case a => k_is); (case l1 => k_is); (case c1 => k_is); (case k1 => k_is)))
    (case d_is_rule => (refine' dfact_mk ?a ?l1 ?c1 ?k1; (case a => k_is); (case l1 => k_is); (case c1 => k_is); (case k1 => k_is)))
    (case d_is_rules => (refine' dfact_mk ?a ?l1 ?c1 ?k1; (case a => k_is); (case l1 => k_is); (case c1 => k_is); (case k1 => k_is)))
    (case d_steps_of => (refine' dfact_mk ?a ?l1 ?c1 ?k1; (case a => k_is); (case l1 => k_is); (case c1 => k_is); (case k1 => k_is)))
    (case d_kinds_behind => (refine' dfact_mk ?a ?l1 ?c1 ?k1; (case a => k_is); (case l1 => k_is); (case c1 => k_is); (case k1 => k_is)))
    (case d_endless_kind => (refine' dfact_mk ?a ?l1 ?c1 ?k1; (case a => k_is); (case l1 => k_is); (case c1 => k_is); (case k1 => k_is)))
    (case d_part_kinds => (refine' dfact_mk ?a ?l1 ?c1 ?k1; (case a => k_is); (case l1 => k_is); (case c1 => k_is); (case k1 => k_is)))
    (case d_is_live => (refine' dfact_mk ?a ?l1 ?c1 ?k1; (case a => k_is); (case l1 => k_is); (case c1 => k_is); (case k1 => k_is)))
    (case d_live_kinds => (refine' dfact_mk ?a ?l1 ?c1 ?k1; (case a => k_is); (case l1 => k_is); (case c1 => k_is); (case k1 => k_is)))
    (case d_live_rules => (refine' dfact_mk ?a ?l1 ?c1 ?k1; (case a => k_is); (case l1 => k_is); (case c1 => k_is); (case k1 => k_is)))
    (case d_live_steps => (refine' dfact_mk ?a ?l1 ?c1 ?k1; (case a => k_is); (case l1 => k_is); (case c1 => k_is); (case k1 => k_is)))
    (case d_kinds_in_use => (refine' dfact_mk ?a ?l1 ?c1 ?k1; (case a => k_is); (case l1 => k_is); (case c1 => k_is); (case k1 => k_is)))
    (case d_kinds_in_order => (refine' dfact_mk ?a ?l1 ?c1 ?k1; (case a => k_is); (case l1 => k_is); (case c1 => k_is); (case k1 => k_is)))
    (case d_words_by => (refine' dfact_mk ?a ?l1 ?c1 ?k1; (case a => k_is); (case l1 => k_is); (case c1 => k_is); (case k1 => k_is)))
    (case d_lengths => (refine' dfact_mk ?a ?l1 ?c1 ?k1; (case a => k_is); (case l1 => k_is); (case c1 => k_is); (case k1 => k_is)))
    (case d_part_behind => (refine' dfact_mk ?a ?l1 ?c1 ?k1; (case a => k_is); (case l1 => k_is); (case c1 => k_is); (case k1 => k_is)))
    (case d_is_step => (refine' dfact_mk ?a ?l1 ?c1 ?k1; (case a => k_is); (case l1 => k_is); (case c1 => k_is); (case k1 => k_is)))
    (case d_loop_holds => (refine' dfact_mk ?a ?l1 ?c1 ?k1; (case a => k_is); (case l1 => k_is); (case c1 => k_is); (case k1 => k_is)))
    (case d_steps_from => (refine' dfact_mk ?a ?l1 ?c1 ?k1; (case a => k_is); (case l1 => k_is); (case c1 => k_is); (case k1 => k_is)))
    (case d_way_back => (refine' dfact_mk ?a ?l1 ?c1 ?k1; (case a => k_is); (case l1 => k_is); (case c1 => k_is); (case k1 => k_is)))
    (case d_longest => (refine' dfact_mk ?a ?l1 ?c1 ?k1; (case a => k_is); (case l1 => k_is); (case c1 => k_is); (case k1 => k_is)))
    (case d_loop => (refine' dfact_mk ?a ?l1 ?c1 ?k1; (case a => k_is); (case l1 => k_is); (case c1 => k_is); (case k1 => k_is)))
    (case d_law_box => (refine' dfact_mk ?a ?l1 ?c1 ?k1; (case a => k_is); (case l1 => k_is); (case c1 => k_is); (case k1 => k_is)))
    (case d_law_take => (refine' dfact_mk ?a ?l1 ?c1 ?k1; (case a => k_is); (case l1 => k_is); (case c1 => k_is); (case k1 => k_is)))
    (case d_law_pick => (refine' dfact_mk ?a ?l1 ?c1 ?k1; (case a => k_is); (case l1 => k_is); (case c1 => k_is); (case k1 => k_is)))
    (case d_law_whole => (refine' dfact_mk ?a ?l1 ?c1 ?k1; (case a => k_is); (case l1 => k_is); (case c1 => k_is); (case k1 => k_is)))
    (case d_law_is_numbers => (refine' dfact_mk ?a ?l1 ?c1 ?k1; (case a => k_is); (case l1 => k_is); (case c1 => k_is); (case k1 => k_is)))
    (case d_law_is_due => (refine' dfact_mk ?a ?l1 ?c1 ?k1; (case a => k_is); (case l1 => k_is); (case c1 => k_is); (case k1 => k_is)))
    (case d_law_unary => (refine' dfact_mk ?a ?l1 ?c1 ?k1; (case a => k_is); (case l1 => k_is); (case c1 => k_is); (case k1 => k_is)))
    (case d_law_back_kind => (refine' dfact_mk ?a ?l1 ?c1 ?k1; (case a => k_is); (case l1 => k_is); (case c1 => k_is); (case k1 => k_is)))
    (case d_law_spoilt => (refine' dfact_mk ?a ?l1 ?c1 ?k1; (case a => k_is); (case l1 => k_is); (case c1 => k_is); (case k1 => k_is)))
    (case d_law_shuffled => (refine' dfact_mk ?a ?l1 ?c1 ?k1; (case a => k_is); (case l1 => k_is); (case c1 => k_is); (case k1 => k_is)))
    (case d_law_grammar => (refine' dfact_mk ?a ?l1 ?c1 ?k1; (case a => k_is); (case l1 => k_is); (case c1 => k_is); (case k1 => k_is)))
    (case d_law_parts => (refine' dfact_mk ?a ?l1 ?c1 ?k1; (case a => k_is); (case l1 => k_is); (case c1 => k_is); (case k1 => k_is)))
    (case d_law_live => (refine' dfact_mk ?a ?l1 ?c1 ?k1; (case a => k_is); (case l1 => k_is); (case c1 => k_is); (case k1 => k_is)))
    (case d_law_below => (refine' dfact_mk ?a ?l1 ?c1 ?k1; (case a => k_is); (case l1 => k_is); (case c1 => k_is); (case k1 => k_is)))
    (case d_law_comes_back => (refine' dfact_mk ?a ?l1 ?c1 ?k1; (case a => k_is); (case l1 => k_is); (case c1 => k_is); (case k1 => k_is)))
    (case d_law_in_use => (refine' dfact_mk ?a ?l1 ?c1 ?k1; (case a => k_is); (case l1 => k_is); (case c1 => k_is); (case k1 => k_is)))
    (case d_law_lengths => (refine' dfact_mk ?a ?l1 ?c1 ?k1; (case a => k_is); (case l1 => k_is); (case c1 => k_is); (case k1 => k_is)))
    (case d_law_is_loop => (refine' dfact_mk ?a ?l1 ?c1 ?k1; (case a => k_is); (case l1 => k_is); (case c1 => k_is); (case k1 => k_is)))
    (case d_law_sparse => (refine' dfact_mk ?a ?l1 ?c1 ?k1; (case a => k_is); (case l1 => k_is); (case c1 => k_is); (case k1 => k_is)))
    (case d_law_made => (refine' dfact_mk ?a ?l1 ?c1 ?k1; (case a => k_is); (case l1 => k_is); (case c1 => k_is); (case k1 => k_is)))
    (case d_law_told => (refine' dfact_mk ?a ?l1 ?c1 ?k1; (case a => k_is); (case l1 => k_is); (case c1 => k_is); (case k1 => k_is)))
    (case d_law => (refine' dfact_mk ?a ?l1 ?c1 ?k1; (case a => k_is); (case l1 => k_is); (case c1 => k_is); (case k1 => k_is)))
    (case tb => kernel_rfl)
