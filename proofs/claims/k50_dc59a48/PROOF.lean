import PyProof.Rows.All
import Wide.All
import OpenK.AllK
import Wide.FinOn
import PyProof.EqAt
import PyProof.EqKinds
import PyProof.TupleCall
import HandS.ForMost
import HandS.ForExc
import HandS.Evl
import HandS.TupAny
import HandS.IsInst
import HandS.Deep
import HandS.Flow
import HandS.Style
import HandS.TupMul
import KE.KExcIs
import HandS.ExcInit
import HandS.ClsMeth
import HandS.ExcField
import HandS.ExcIs
import HandS.TryMany
import HandS.OwnEq
import HandS.More
import HandS.Text
import HandS.Rev
import HandS.RevTup
import HandS.SetFor
import HandS.List
import HandS.SortRule
import HandS.SortInts
import HandS.TupSets
import HandS.Sort
import HandS.NamedTupSort
import HandS.Conv
import HandS.SortOrd
import KE.KSortTup
import HandS.TupLe
import HandS.Comp
import HandS.DictComp
import HandS.Dict
import KE.GoesEnum
import HandS.Iter
import HandS.Zip
import KE.DataCmp
import PyProof.FitsBits
import HandS.Star
import KE.OsRunLaw
import PySem.Challenge.RW_treestacks_k50_edits_at_a_desk
set_option Elab.async false
set_option linter.all false
set_option maxRecDepth 100000
set_option maxHeartbeats 8000000
/-! Values of a program as plain data: what an expression evaluates to, over heaps that grow. -/
namespace Dx
open PySem PySem.Spec PyProof.Rows L2 Evl

/-! ### data that a value stands for -/
/-- a tuple that stands so: one of the heap, or one of the module's -/
abbrev TupAt (K : PySem.W.Frag) (H : Hp) (a : Addr) (xs : List V) : Prop := H a = some (.tup xs) ∨
  ∃ (o : Obj) (its : Array Value) (n : Nat), K.lookup a = some o ∧ o.cls = .type "tuple" ∧ o.data = .seq its n ∧ its.size ≤ sizeLine ∧ Vals xs its.toList
theorem TupAt.sq {K : PySem.W.Frag} {H : Hp} {a : Addr} {xs : List V} (h : TupAt K H a xs) : SqT K H a xs := h.imp (fun z => .inl z) id
theorem ta_of {K : PySem.W.Frag} {H : Hp} {a : Addr} {xs : List V} (h : H a = some (.tup xs)) : TupAt K H a xs := .inl h
theorem ta_ex {K : PySem.W.Frag} {H H' : Hp} {a : Addr} {xs : List V} (e : Ex H H') (h : TupAt K H a xs) : TupAt K H' a xs := h.imp (fun z => e _ _ z) id
mutual
inductive Dd (K : PySem.W.Frag) (H : Hp) : V → PyData → Prop
  | non : Dd K H .non .none
  | bl (b : Bool) : Dd K H (.bl b) (.bool b)
  | int (i : Int) : Dd K H (.int i) (.int i)
  | str (x : Str) : x.length ≤ sizeLine → Dd K H (.str x) (.str x)
  | lst {a : Addr} {xs : List V} {ds : List PyData} : H a = some (.lst xs) → xs.length ≤ sizeLine → DdAll K H xs ds → Dd K H (.ref a) (.list ds)
  | tup {a : Addr} {xs : List V} {ds : List PyData} : TupAt K H a xs → xs.length ≤ sizeLine → DdAll K H xs ds → Dd K H (.ref a) (.tuple ds)
inductive DdAll (K : PySem.W.Frag) (H : Hp) : List V → List PyData → Prop
  | nil : DdAll K H [] []
  | cons {v : V} {vs : List V} {d : PyData} {ds : List PyData} : Dd K H v d → DdAll K H vs ds → DdAll K H (v :: vs) (d :: ds)
end
section
variable {K : PySem.W.Frag} {H H' : Hp}
mutual
theorem Dd.mono (e : Ex H H') : ∀ (d : PyData) (v : V), Dd K H v d → Dd K H' v d
  | .none, _, h => by cases h; exact .non
  | .bool b, _, h => by cases h; exact .bl b
  | .int i, _, h => by cases h; exact .int i
  | .str x, _, h => by
    cases h with
    | str _ hl => exact .str x hl
  | .list ds, _, h => by
    cases h with
    | lst hs hl ha => exact .lst (e _ _ hs) hl (DdAll.mono e ds _ ha)
  | .tuple ds, _, h => by
    cases h with
    | tup hs hl ha => exact .tup (ta_ex e hs) hl (DdAll.mono e ds _ ha)
  | .dict _, _, h => by cases h
theorem DdAll.mono (e : Ex H H') : ∀ (ds : List PyData) (vs : List V), DdAll K H vs ds → DdAll K H' vs ds
  | [], _, h => by cases h; exact .nil
  | d :: ds, _, h => by
    cases h with
    | cons h1 h2 => exact .cons (Dd.mono e d _ h1) (DdAll.mono e ds _ h2)
end
theorem Dd.up {v : V} {d : PyData} (h : Dd K H v d) (e : Ex H H') : Dd K H' v d := Dd.mono e d v h
theorem DdAll.up {vs : List V} {ds : List PyData} (h : DdAll K H vs ds) (e : Ex H H') : DdAll K H' vs ds := DdAll.mono e ds vs h
mutual
theorem Dd.dp : ∀ (d : PyData) (v : V), Dd K H v d → Dp K H v d
  | .none, _, h => by cases h; exact .non
  | .bool b, _, h => by cases h; exact .bl b
  | .int i, _, h => by cases h; exact .int i
  | .str x, _, h => by
    cases h with
    | str _ hl => exact .str x
  | .list ds, _, h => by
    cases h with
    | lst hs hl ha => exact .lst (sq_of hs) (DdAll.dp ds _ ha)
  | .tuple ds, _, h => by
    cases h with
    | tup hs hl ha => exact .tup hs.sq (DdAll.dp ds _ ha)
  | .dict _, _, h => by cases h
theorem DdAll.dp : ∀ (ds : List PyData) (vs : List V), DdAll K H vs ds → DpAll K H vs ds
  | [], _, h => by cases h; exact .nil
  | d :: ds, _, h => by
    cases h with
    | cons h1 h2 => exact .cons (Dd.dp d _ h1) (DdAll.dp ds _ h2)
end
theorem DdAll.len : ∀ {vs : List V} {ds : List PyData}, DdAll K H vs ds → vs.length = ds.length
  | _, _, .nil => rfl
  | _, _, .cons _ t => by
    rw [List.length_cons, List.length_cons, DdAll.len t]
theorem DdAll.app : ∀ {vs us : List V} {ds es : List PyData}, DdAll K H vs ds → DdAll K H us es → DdAll K H (vs ++ us) (ds ++ es)
  | _, _, _, _, .nil, h => h
  | _, _, _, _, .cons a t, h => .cons a (DdAll.app t h)
theorem DdAll.get : ∀ {vs : List V} {ds : List PyData} {i : Nat} {d : PyData}, DdAll K H vs ds → ds[i]? = some d → ∃ v, vs[i]? = some v ∧ Dd K H v d
  | _, _, _, _, .nil, e => by simp at e
  | _, _, 0, _, .cons a _, e => by
    simp at e
    subst e
    exact ⟨_, rfl, a⟩
  | _, _, i + 1, d, .cons _ t, e => by
    obtain ⟨v, h1, h2⟩ := DdAll.get (i := i) (d := d) t (by simpa using e)
    exact ⟨v, by simpa using h1, h2⟩
theorem DdAll.getv : ∀ {vs : List V} {ds : List PyData} {i : Nat} {v : V}, DdAll K H vs ds → vs[i]? = some v → ∃ d, ds[i]? = some d ∧ Dd K H v d
  | _, _, _, _, .nil, e => by simp at e
  | _, _, 0, _, .cons a _, e => by
    simp at e
    subst e
    exact ⟨_, rfl, a⟩
  | _, _, i + 1, d, .cons _ t, e => by
    obtain ⟨v, h1, h2⟩ := DdAll.getv (i := i) (v := d) t (by simpa using e)
    exact ⟨v, by simpa using h1, h2⟩
theorem DdAll.take : ∀ {vs : List V} {ds : List PyData} (n : Nat), DdAll K H vs ds → DdAll K H (vs.take n) (ds.take n)
  | _, _, 0, _ => .nil
  | _, _, _ + 1, .nil => .nil
  | _, _, n + 1, .cons r t => .cons r (DdAll.take n t)
theorem DdAll.drop : ∀ {vs : List V} {ds : List PyData} (n : Nat), DdAll K H vs ds → DdAll K H (vs.drop n) (ds.drop n)
  | _, _, 0, r => r
  | _, _, _ + 1, .nil => .nil
  | _, _, n + 1, .cons _ t => DdAll.drop n t
theorem DdAll.snoc {vs : List V} {ds : List PyData} {v : V} {d : PyData} (h : DdAll K H vs ds) (g : Dd K H v d) : DdAll K H (vs ++ [v]) (ds ++ [d]) := h.app (.cons g .nil)
theorem DdAll.rev {vs : List V} {ds : List PyData} (h : DdAll K H vs ds) : DdAll K H vs.reverse ds.reverse := by
  induction ds generalizing vs with
  | nil =>
    cases h
    exact .nil
  | cons d ds ih =>
    cases h with
    | cons a t =>
      rw [List.reverse_cons, List.reverse_cons]
      exact (ih t).snoc a
theorem DdAll.rep {vs : List V} {ds : List PyData} (h : DdAll K H vs ds) : ∀ n : Nat, DdAll K H (List.replicate n vs).flatten (List.replicate n ds).flatten
  | 0 => .nil
  | n + 1 => by
    rw [List.replicate_succ, List.replicate_succ, List.flatten_cons, List.flatten_cons]
    exact h.app (DdAll.rep h n)
theorem dd_int {v : V} {i : Int} (h : Dd K H v (.int i)) : v = .int i := by cases h; rfl
theorem dd_bl {v : V} {b : Bool} (h : Dd K H v (.bool b)) : v = .bl b := by cases h; rfl
theorem dd_non {v : V} (h : Dd K H v .none) : v = .non := by cases h; rfl
theorem dd_str {v : V} {x : Str} (h : Dd K H v (.str x)) : v = .str x ∧ x.length ≤ sizeLine := by
  cases h with
  | str _ hl => exact ⟨rfl, hl⟩
theorem dd_tup {v : V} {ds : List PyData} (h : Dd K H v (.tuple ds)) : ∃ a xs, v = .ref a ∧ SqT K H a xs ∧ xs.length ≤ sizeLine ∧ DdAll K H xs ds := by
  cases h with
  | tup hs hl ha => exact ⟨_, _, rfl, hs.sq, hl, ha⟩
theorem dd_tupA {v : V} {ds : List PyData} (h : Dd K H v (.tuple ds)) : ∃ a xs, v = .ref a ∧ TupAt K H a xs ∧ xs.length ≤ sizeLine ∧ DdAll K H xs ds := by
  cases h with
  | tup hs hl ha => exact ⟨_, _, rfl, hs, hl, ha⟩
theorem dd_lst {v : V} {ds : List PyData} (h : Dd K H v (.list ds)) : ∃ a xs, v = .ref a ∧ H a = some (.lst xs) ∧ xs.length ≤ sizeLine ∧ DdAll K H xs ds := by
  cases h with
  | lst hs hl ha => exact ⟨_, _, rfl, hs, hl, ha⟩
end

mutual
theorem eqv_refl : ∀ d : PyData, d.canLay0 = true → PyData.eqv d d = true
  | .none, _ => by simp [PyData.eqv]
  | .bool b, _ => by simp [PyData.eqv]
  | .int i, _ => by simp [PyData.eqv]
  | .str x, _ => by simp [PyData.eqv]
  | .list ds, h => by
    simp only [PyData.eqv]
    exact eqvAll_refl ds (by simpa [PyData.canLay0] using h)
  | .tuple ds, h => by
    simp only [PyData.eqv]
    exact eqvAll_refl ds (by simpa [PyData.canLay0] using h)
  | .dict _, h => by simp [PyData.canLay0] at h
theorem eqvAll_refl : ∀ ds : List PyData, PyData.canLayAll0 ds = true → PyData.eqvAll ds ds = true
  | [], _ => by simp [PyData.eqvAll]
  | d :: ds, h => by
    have h' : d.canLay0 = true ∧ PyData.canLayAll0 ds = true := by simpa [PyData.canLayAll0] using h
    simp only [PyData.eqvAll]
    rw [eqv_refl d h'.1, eqvAll_refl ds h'.2]
    rfl
end
theorem shaped_lay {d : PyData} (h : SeqAt.shaped d = true) : d.canLay0 = true := SeqAt.canLay_of_shaped h

/-! ### objects that are no tuples: lists, dicts, instances .. -/
def nT : HO → Prop
  | .tup _ => False
  | _ => True
def Liv (H : Hp) (a : Addr) : Prop := ∃ o, H a = some o ∧ nT o
theorem Liv.ne {H : Hp} {a : Addr} (h : Liv H a) : H a ≠ none := by
  obtain ⟨o, e, _⟩ := h
  rw [e]
  exact fun z => nomatch z
theorem Liv.upd {H : Hp} {a p : Addr} {o : HO} (h : Liv H a) (hp : a ≠ p) : Liv (upd H p o) a := by
  obtain ⟨x, e, n⟩ := h
  exact ⟨x, by rw [upd_ne hp]; exact e, n⟩
theorem liv_set {H : Hp} {p : Addr} {o : HO} (h : nT o) : Liv (L2.upd H p o) p := ⟨o, upd_same, h⟩
/-! ### what is changed: objects of M alone; J holds of the heap all the while; B: the part of the heap that data stand in -/
structure Fm where
  M : Addr → Prop
  J : Hp → Prop
  up : ∀ H H', Ex H H' → J H → J H'
  lv : ∀ H a, J H → M a → Liv H a
  fr : ∀ H a o, J H → ¬ M a → J (upd H a o)
def Fm.pure : Fm := ⟨fun _ => False, fun _ => True, fun _ _ _ _ => trivial, fun _ _ _ z => z.elim, fun _ _ _ _ _ => trivial⟩
structure Step (M : Addr → Prop) (B H B' H' : Hp) : Prop where
  bb : Ex B B'
  bh : Ex B' H'
  keep : ∀ a o, ¬ M a → H a = some o → H' a = some o
  sep : ∀ a, B a = none → Liv H a → B' a = none
  live : ∀ a, H a ≠ none → H' a ≠ none
  liv : ∀ a, Liv H a → Liv H' a
section
variable {M M' : Addr → Prop} {B H B' H' B2 H2 : Hp} {p : Addr} {o : HO}
theorem Step.refl (e : Ex B H) : Step M B H B H := ⟨Ex.refl B, e, fun _ _ _ h => h, fun _ h _ => h, fun _ h => h, fun _ h => h⟩
theorem Step.trans (a : Step M B H B' H') (b : Step M B' H' B2 H2) : Step M B H B2 H2 :=
  ⟨a.bb.trans b.bb, b.bh, fun x o n h => b.keep x o n (a.keep x o n h), fun x h n => b.sep x (a.sep x h n) (a.liv x n), fun x n => b.live x (a.live x n), fun x n => b.liv x (a.liv x n)⟩
theorem Step.imp (a : Step M B H B' H') (h : ∀ x, M x → M' x) : Step M' B H B' H' := ⟨a.bb, a.bh, fun x o n => a.keep x o fun z => n (h x z), a.sep, a.live, a.liv⟩
theorem Step.pure (a : Step (fun _ => False) B H B' H') : Step M B H B' H' := a.imp fun _ z => z.elim
theorem Step.ex (a : Step (fun _ => False) B H B' H') : Ex H H' := fun x o h => a.keep x o (fun z => z) h
theorem Step.alloc (e : Ex B H) (hp : H p = none) : Step M B H (upd B p o) (upd H p o) where
  bb := Ex.new (fresh_back e hp)
  bh := fun a u h => by
    by_cases ha : a = p
    · subst ha
      rw [upd_same] at h ⊢
      exact h
    · rw [upd_ne ha] at h ⊢
      exact e a u h
  keep := fun a u _ h => by
    rw [upd_ne (ne_of_none h hp)]
    exact h
  sep := fun a h n => by
    have ha : a ≠ p := fun z => n.ne (z ▸ hp)
    rw [upd_ne ha]
    exact h
  live := fun a n => by
    have ha : a ≠ p := fun z => n (z ▸ hp)
    rw [upd_ne ha]
    exact n
  liv := fun a n => n.upd fun z => n.ne (z ▸ hp)
end

/-- the data stand in B, nothing of M among them -/
structure Ok (F : Fm) (B H : Hp) : Prop where
  e : Ex B H
  j : F.J H
  av : ∀ a, F.M a → B a = none
section
variable {F : Fm} {B H B' H' : Hp} {p : Addr} {o : HO}
theorem Ok.next (k : Ok F B H) (s : Step F.M B H B' H') (j : F.J H') : Ok F B' H' := ⟨s.bh, j, fun a m => s.sep a (k.av a m) (F.lv H a k.j m)⟩
theorem Ok.alloc (k : Ok F B H) (hp : H p = none) : Ok F (upd B p o) (upd H p o) := k.next (Step.alloc k.e hp) (F.up _ _ (Ex.new hp) k.j)
theorem Ok.pure (k : Ok F B H) (s : Step (fun _ => False) B H B' H') : Ok F B' H' := k.next s.pure (F.up _ _ s.ex k.j)
theorem Ok.any (e : Ex B H) : Ok Fm.pure B H := ⟨e, trivial, fun _ z => z.elim⟩
end

/-! ### what expressions evaluate to -/
abbrev PV := V → Hp → Prop
def EV (F : Fm) (te : TE) (σ : L2.St) (B : Hp) (P : PV) : Prop := ∀ B1, Ex B B1 → ∀ H, Ok F B1 H → ∀ Q : VK, (∀ v B' H', Step F.M B1 H B' H' → Ok F B' H' → P v B' → Q v H') → te σ H Q
def EVs (F : Fm) (ta : TA) (σ : L2.St) (B : Hp) (P : List V → Hp → Prop) : Prop := ∀ B1, Ex B B1 → ∀ H, Ok F B1 H → ∀ Q : List V → Hp → Prop, (∀ vs B' H', Step F.M B1 H B' H' → Ok F B' H' → P vs B' → Q vs H') → ta σ H Q
def ETt (F : Fm) (tt : TT) (σ : L2.St) (B : Hp) (b : Bool) : Prop := ∀ B1, Ex B B1 → ∀ H, Ok F B1 H → ∀ Q : Bool → Hp → Prop, (∀ B' H', Step F.M B1 H B' H' → Ok F B' H' → Q b H') → tt σ H Q
def DD (K : PySem.W.Frag) (d : PyData) : PV := fun v B => Dd K B v d
def DDs (K : PySem.W.Frag) (ds : List PyData) : List V → Hp → Prop := fun vs B => DdAll K B vs ds
abbrev ED (F : Fm) (K : PySem.W.Frag) (te : TE) (σ : L2.St) (B : Hp) (d : PyData) : Prop := EV F te σ B (DD K d)
abbrev EDs (F : Fm) (K : PySem.W.Frag) (ta : TA) (σ : L2.St) (B : Hp) (ds : List PyData) : Prop := EVs F ta σ B (DDs K ds)
/-- operations on values -/
def RV2 (F : Fm) (r : R2) (B : Hp) (P P' Z : PV) : Prop := ∀ B1, Ex B B1 → ∀ H u v, Ok F B1 H → P u B1 → P' v B1 → ∀ Q : VK, (∀ w B' H', Step F.M B1 H B' H' → Ok F B' H' → Z w B' → Q w H') → r u v H Q
def RVc (F : Fm) (r : List V → Hp → VK → Prop) (B : Hp) (P : List V → Hp → Prop) (Z : PV) : Prop := ∀ B1, Ex B B1 → ∀ H us, Ok F B1 H → P us B1 → ∀ Q : VK, (∀ w B' H', Step F.M B1 H B' H' → Ok F B' H' → Z w B' → Q w H') → r us H Q
abbrev RD2 (F : Fm) (K : PySem.W.Frag) (r : R2) (B : Hp) (x y z : PyData) : Prop := RV2 F r B (DD K x) (DD K y) (DD K z)
abbrev RDc (F : Fm) (K : PySem.W.Frag) (r : List V → Hp → VK → Prop) (B : Hp) (xs : List PyData) (z : PyData) : Prop := RVc F r B (DDs K xs) (DD K z)
/-- stays true in larger heaps -/
def Upc (P : PV) : Prop := ∀ v B B', Ex B B' → P v B → P v B'
def Upcs (P : List V → Hp → Prop) : Prop := ∀ v B B', Ex B B' → P v B → P v B'
section
variable {F : Fm} {K : PySem.W.Frag} {σ : L2.St} {B B' : Hp} {te ta tb tc : TE} {tas : TA} {t u : TT} {d x y z : PyData} {ds : List PyData} {b c : Bool} {P P' Z : PV} {Ps : List V → Hp → Prop}
theorem upc_dd : Upc (DD K d) := fun _ _ _ e h => Dd.up h e
theorem upc_dds : Upcs (DDs K ds) := fun _ _ _ e h => DdAll.up h e
theorem EV.up (h : EV F te σ B P) (e : Ex B B') : EV F te σ B' P := fun B1 e0 H j Q q => h B1 (e.trans e0) H j Q q
theorem EVs.up (h : EVs F tas σ B Ps) (e : Ex B B') : EVs F tas σ B' Ps := fun B1 e0 H j Q q => h B1 (e.trans e0) H j Q q
theorem ETt.up (h : ETt F t σ B b) (e : Ex B B') : ETt F t σ B' b := fun B1 e0 H j Q q => h B1 (e.trans e0) H j Q q
theorem EV.imp (h : EV F te σ B P) (i : ∀ v B1, Ex B B1 → P v B1 → Z v B1) : EV F te σ B Z := fun B1 e0 H j Q q => h B1 e0 H j Q fun v B2 H2 s j2 p => q v B2 H2 s j2 (i v B2 (e0.trans s.bb) p)
theorem ed_is {d' : PyData} (h : ED F K te σ B d) (e : d = d') : ED F K te σ B d' := e ▸ h
theorem et_is {b' : Bool} (h : ETt F t σ B b) (e : b = b') : ETt F t σ B b' := e ▸ h
theorem ev_v {v : V} (hu : Upc P) (h : P v B) : EV F (tC v) σ B P := fun B1 e0 H j Q q => q v B1 H (Step.refl j.e) j (hu v B B1 e0 h)
theorem ev_var {i : Nat} {v : V} (hi : σ[i]? = some (some v)) (hu : Upc P) (h : P v B) : EV F (tVar i) σ B P := fun B1 e0 H j Q q => ⟨v, hi, q v B1 H (Step.refl j.e) j (hu v B B1 e0 h)⟩
theorem ed_var {i : Nat} {v : V} (hi : σ[i]? = some (some v)) (h : Dd K B v d) : ED F K (tVar i) σ B d := ev_var hi upc_dd h
theorem ed_v {v : V} (h : Dd K B v d) : ED F K (tC v) σ B d := ev_v upc_dd h
theorem ed_int {i : Int} : ED F K (tC (.int i)) σ B (.int i) := ed_v (.int i)
theorem ed_bl : ED F K (tC (.bl b)) σ B (.bool b) := ed_v (.bl b)
theorem ed_non : ED F K (tC .non) σ B .none := ed_v .non
theorem ed_str {x : Str} (hl : x.length ≤ sizeLine := by decide) : ED F K (tC (.str x)) σ B (.str x) := ed_v (.str x hl)
theorem evs_nil : EVs F tNil σ B (fun vs _ => vs = []) := fun B1 e0 H j Q q => q [] B1 H (Step.refl j.e) j rfl
theorem evs_cons (hu : Upc P) (h : EV F te σ B P) (hs : EVs F tas σ B Ps) : EVs F (tCons te tas) σ B (fun vs B => ∃ v us, vs = v :: us ∧ P v B ∧ Ps us B) := fun B1 e0 H j Q q =>
  h B1 e0 H j _ fun v B2 H2 s2 j2 p => hs B2 (e0.trans s2.bb) H2 j2 _ fun us B3 H3 s3 j3 ps => q (v :: us) B3 H3 (s2.trans s3) j3 ⟨v, us, rfl, hu v B2 B3 s3.bb p, ps⟩
theorem eds_nil : EDs F K tNil σ B [] := fun B1 e0 H j Q q => q [] B1 H (Step.refl j.e) j .nil
theorem eds_cons (h : ED F K te σ B d) (hs : EDs F K tas σ B ds) : EDs F K (tCons te tas) σ B (d :: ds) := fun B1 e0 H j Q q =>
  h B1 e0 H j _ fun v B2 H2 s2 j2 p => hs B2 (e0.trans s2.bb) H2 j2 _ fun us B3 H3 s3 j3 ps => q (v :: us) B3 H3 (s2.trans s3) j3 (.cons (Dd.up p s3.bb) ps)
/-- a new object -/
theorem EVs.newT (h : EVs F tas σ B Ps) (hl : ∀ vs B1, Ex B B1 → Ps vs B1 → vs.length ≤ sizeLine) (hz : ∀ vs p B1, Ex B B1 → Ps vs B1 → B1 p = none → Z (.ref p) (upd B1 p (.tup vs))) : EV F (tTup tas) σ B Z := fun B1 e0 H j Q q =>
  h B1 e0 H j _ fun vs B2 H2 s2 j2 p => ⟨hl vs B2 (e0.trans s2.bb) p, fun a ha => q (.ref a) _ _ (s2.trans (Step.alloc j2.e ha)) (j2.alloc ha) (hz vs a B2 (e0.trans s2.bb) p (fresh_back s2.bh ha))⟩
theorem EVs.newL (h : EVs F tas σ B Ps) (hl : ∀ vs B1, Ex B B1 → Ps vs B1 → vs.length ≤ sizeLine) (hz : ∀ vs p B1, Ex B B1 → Ps vs B1 → B1 p = none → Z (.ref p) (upd B1 p (.lst vs))) : EV F (tLst tas) σ B Z := fun B1 e0 H j Q q =>
  h B1 e0 H j _ fun vs B2 H2 s2 j2 p => ⟨hl vs B2 (e0.trans s2.bb) p, fun a ha => q (.ref a) _ _ (s2.trans (Step.alloc j2.e ha)) (j2.alloc ha) (hz vs a B2 (e0.trans s2.bb) p (fresh_back s2.bh ha))⟩
theorem ed_tup (h : EDs F K tas σ B ds) (hl : ds.length ≤ 16777216 := by exact Nat.le_of_ble_eq_true rfl) : ED F K (tTup tas) σ B (.tuple ds) := by
  have lz : ∀ (vs : List V) (B1 : Hp), Ex B B1 → DDs K ds vs B1 → vs.length ≤ sizeLine := fun vs B1 _ g => by rw [DdAll.len g, sizeLine_eq]; exact hl
  exact h.newT lz fun vs p B1 e g hp => .tup (ta_of upd_same) (lz vs B1 e g) (DdAll.up g (Ex.new hp))
theorem ed_lst (h : EDs F K tas σ B ds) (hl : ds.length ≤ 16777216 := by exact Nat.le_of_ble_eq_true rfl) : ED F K (tLst tas) σ B (.list ds) := by
  have lz : ∀ (vs : List V) (B1 : Hp), Ex B B1 → DDs K ds vs B1 → vs.length ≤ sizeLine := fun vs B1 _ g => by rw [DdAll.len g, sizeLine_eq]; exact hl
  exact h.newL lz fun vs p B1 e g hp => .lst upd_same (lz vs B1 e g) (DdAll.up g (Ex.new hp))
theorem ev_op {r : R2} (ha : EV F ta σ B P) (hb : EV F tb σ B P') (hu : Upc P) (hr : RV2 F r B P P' Z) : EV F (tOp r ta tb) σ B Z := fun B1 e0 H j Q q =>
  ha B1 e0 H j _ fun v B2 H2 s2 j2 h2 => hb B2 (e0.trans s2.bb) H2 j2 _ fun w B3 H3 s3 j3 h3 =>
    hr B3 ((e0.trans s2.bb).trans s3.bb) H3 v w j3 (hu v B2 B3 s3.bb h2) h3 Q fun z B4 H4 s4 j4 h4 => q z B4 H4 ((s2.trans s3).trans s4) j4 h4
theorem ed_op {r : R2} (ha : ED F K ta σ B x) (hb : ED F K tb σ B y) (hr : RD2 F K r B x y z) : ED F K (tOp r ta tb) σ B z := ev_op ha hb upc_dd hr
theorem ev_cb {r : List V → Hp → VK → Prop} (h : EVs F tas σ B Ps) (hr : RVc F r B Ps Z) : EV F (tCB r tas) σ B Z := fun B1 e0 H j Q q =>
  h B1 e0 H j _ fun vs B2 H2 s2 j2 h2 => hr B2 (e0.trans s2.bb) H2 vs j2 h2 Q fun w B3 H3 s3 j3 h3 => q w B3 H3 (s2.trans s3) j3 h3
theorem ev_call {sp : Sp} {E : XK} (h : EVs F tas σ B Ps) (hr : RVc F (fun vs H Q => sp vs H Q E) B Ps Z) : EV F (tCall sp [] E tas) σ B Z := fun B1 e0 H j Q q =>
  h B1 e0 H j _ fun vs B2 H2 s2 j2 h2 => by
    show sp (vs ++ []) H2 Q E
    rw [List.append_nil]
    exact hr B2 (e0.trans s2.bb) H2 vs j2 h2 Q fun w B3 H3 s3 j3 h3 => q w B3 H3 (s2.trans s3) j3 h3
theorem ev_if (h : ETt F t σ B b) (h1 : b = true → EV F ta σ B P) (h2 : b = false → EV F tb σ B P) : EV F (tIf t ta tb) σ B P := fun B1 e0 H j Q q => h B1 e0 H j _ fun B2 H2 s2 j2 => by
  cases b with
  | true =>
    show ta σ H2 Q
    exact h1 rfl B2 (e0.trans s2.bb) H2 j2 Q fun v B3 H3 s3 j3 g => q v B3 H3 (s2.trans s3) j3 g
  | false =>
    show tb σ H2 Q
    exact h2 rfl B2 (e0.trans s2.bb) H2 j2 Q fun v B3 H3 s3 j3 g => q v B3 H3 (s2.trans s3) j3 g
theorem ed_andV (h1 : ED F K ta σ B (.bool b)) (h2 : b = true → ED F K tb σ B (.bool c)) : ED F K (tAndV ta tb) σ B (.bool (b && c)) := fun B1 e0 H j Q q => h1 B1 e0 H j _ fun v B2 H2 s2 j2 g => ⟨b, dd_bl g, by
  cases b with
  | true =>
    show tb σ H2 Q
    exact h2 rfl B2 (e0.trans s2.bb) H2 j2 Q fun v B3 H3 s3 j3 g => q v B3 H3 (s2.trans s3) j3 g
  | false =>
    show Q (.bl false) H2
    exact q _ B2 H2 s2 j2 (.bl false)⟩
theorem ed_orV (h1 : ED F K ta σ B (.bool b)) (h2 : b = false → ED F K tb σ B (.bool c)) : ED F K (tOrV ta tb) σ B (.bool (b || c)) := fun B1 e0 H j Q q => h1 B1 e0 H j _ fun v B2 H2 s2 j2 g => ⟨b, dd_bl g, by
  cases b with
  | true =>
    show Q (.bl true) H2
    exact q _ B2 H2 s2 j2 (.bl true)
  | false =>
    show tb σ H2 Q
    exact h2 rfl B2 (e0.trans s2.bb) H2 j2 Q fun v B3 H3 s3 j3 g => q v B3 H3 (s2.trans s3) j3 g⟩
/-- a < b < c -/
theorem ed_chain {r r' : R2} (ha : ED F K ta σ B x) (hb : ED F K tb σ B y) (hr : RD2 F K r B x y (.bool b)) (h2 : b = true → ∃ z, ED F K tc σ B z ∧ RD2 F K r' B y z (.bool c)) : ED F K (tChain r r' ta tb tc) σ B (.bool (b && c)) := fun B1 e0 H j Q q =>
  ha B1 e0 H j _ fun v B2 H2 s2 j2 h2' => hb B2 (e0.trans s2.bb) H2 j2 _ fun w B3 H3 s3 j3 h3 => hr B3 ((e0.trans s2.bb).trans s3.bb) H3 v w j3 (Dd.up h2' s3.bb) h3 _ fun z B4 H4 s4 j4 h4 => ⟨b, dd_bl h4, by
    cases b with
    | true =>
      obtain ⟨z, hc, hr2⟩ := h2 rfl
      show tc σ H4 _
      exact hc B4 (((e0.trans s2.bb).trans s3.bb).trans s4.bb) H4 j4 _ fun u B5 H5 s5 j5 h5 => hr2 B5 ((((e0.trans s2.bb).trans s3.bb).trans s4.bb).trans s5.bb) H5 w u j5 (Dd.up h3 (s4.bb.trans s5.bb)) h5 Q fun t B6 H6 s6 j6 h6 => q t B6 H6 ((((s2.trans s3).trans s4).trans s5).trans s6) j6 h6
    | false =>
      show Q (.bl false) H4
      exact q _ B4 H4 ((s2.trans s3).trans s4) j4 (.bl false)⟩
theorem ed_notV (h1 : ED F K ta σ B (.bool b)) : ED F K (tNotV ta) σ B (.bool (!b)) := fun B1 e0 H j Q q => h1 B1 e0 H j _ fun v B2 H2 s2 j2 g => ⟨b, dd_bl g, q _ B2 H2 s2 j2 (.bl _)⟩
/-! tests -/
theorem et_cmp (h : ED F K te σ B (.bool b)) : ETt F (tTest te) σ B b := fun B1 e0 H j Q q => h B1 e0 H j _ fun v B2 H2 s2 j2 g => ⟨b, dd_bl g, q B2 H2 s2 j2⟩
theorem et_val (h : ED F K te σ B (.bool b)) : ETt F (tB te) σ B b := fun B1 e0 H j Q q => h B1 e0 H j _ fun v B2 H2 s2 j2 g => ⟨b, dd_bl g, q B2 H2 s2 j2⟩
theorem et_not (h : ETt F t σ B b) : ETt F (tNot t) σ B (!b) := fun B1 e0 H j Q q => h B1 e0 H j _ fun B2 H2 s2 j2 => q B2 H2 s2 j2
theorem et_and (h1 : ETt F t σ B b) (h2 : b = true → ETt F u σ B c) : ETt F (tAnd t u) σ B (b && c) := fun B1 e0 H j Q q => h1 B1 e0 H j _ fun B2 H2 s2 j2 => by
  cases b with
  | true =>
    show u σ H2 Q
    exact h2 rfl B2 (e0.trans s2.bb) H2 j2 Q fun B3 H3 s3 j3 => q B3 H3 (s2.trans s3) j3
  | false =>
    show Q false H2
    exact q B2 H2 s2 j2
theorem et_or (h1 : ETt F t σ B b) (h2 : b = false → ETt F u σ B c) : ETt F (tOr t u) σ B (b || c) := fun B1 e0 H j Q q => h1 B1 e0 H j _ fun B2 H2 s2 j2 => by
  cases b with
  | true =>
    show Q true H2
    exact q B2 H2 s2 j2
  | false =>
    show u σ H2 Q
    exact h2 rfl B2 (e0.trans s2.bb) H2 j2 Q fun B3 H3 s3 j3 => q B3 H3 (s2.trans s3) j3
theorem PW_or3 {t1 t2 t3 : TT} (h1 : ETt F t1 σ B false) (h2 : ETt F t2 σ B false) (h3 : ETt F t3 σ B false) : ETt F (tOr t1 (tOr t2 t3)) σ B false := et_or h1 fun _ => et_or h2 fun _ => h3
/-- a value's truth -/
def tru : PyData → Bool
  | .none => false
  | .bool b => b
  | .int i => i != 0
  | .str x => (x.length : Int) != 0
  | .list ds => !ds.isEmpty
  | .tuple ds => !ds.isEmpty
  | .dict kvs => !kvs.isEmpty
theorem DdAll.emp {K : PySem.W.Frag} {H : Hp} {vs : List V} {ds : List PyData} (h : DdAll K H vs ds) : (!vs.isEmpty) = !ds.isEmpty := by cases h <;> rfl
theorem truV {K : PySem.W.Frag} {H : Hp} {v : V} {d : PyData} (h : Dd K H v d) : TruV K v H (tru d) := by
  cases h with
  | non => exact rfl
  | bl b => exact rfl
  | int i => exact rfl
  | str x hl => exact ⟨hl, rfl⟩
  | lst hs hl ha => exact .inl ⟨_, sq_of hs, (DdAll.emp ha).symm⟩
  | tup hs hl ha => exact .inr (.inl ⟨_, hs.sq, (DdAll.emp ha).symm⟩)
theorem et_tru (h : ED F K te σ B d) : ETt F (fun σ H Q => te σ H fun x H' => ∃ k, TruV K x H' k ∧ Q k H') σ B (tru d) := fun B1 e0 H j Q q => h B1 e0 H j _ fun v B2 H2 s2 j2 g => ⟨tru d, truV (Dd.up g s2.bh), q B2 H2 s2 j2⟩
end

/-! ### operations -/
section
variable {F : Fm} {K : PySem.W.Frag} {B : Hp} {i j : Int} {x y z d : PyData} {ds es xs : List PyData}
/-- an operation that makes nothing -/
theorem rd_of {r : R2} (h : ∀ H u v, Dd K H u x → Dd K H v y → ∃ w, (∀ H', Dd K H' w z) ∧ ∀ Q : VK, Q w H → r u v H Q) : RD2 F K r B x y z := fun B1 e0 H u v jj hu hv Q q => by
  obtain ⟨w, hw, hq⟩ := h H u v (Dd.up hu jj.e) (Dd.up hv jj.e)
  exact hq Q (q w B1 H (Step.refl jj.e) jj (hw B1))
/-- + of ints, texts, lists, tuples -/
def rAddA (K : PySem.W.Frag) : R2 := fun x y H Q => rI0 (fun i j => .int (i + j)) x y H Q ∨ (∃ i j, x = .str i ∧ y = .str j ∧ i.length + j.length ≤ sizeLine ∧ Q (.str (i ++ j)) H) ∨ rCat x y H Q ∨ rCatA K x y H Q
theorem op_addA {X : Cx} : OpR X (binaryOp .Add) (rAddA X.K) := op_add.or (op_add_str.or (op_cat.or op_catA))
theorem rd_add : RD2 F K (rAddA K) B (.int i) (.int j) (.int (i + j)) := rd_of fun H u v hu hv => ⟨.int (i + j), fun _ => .int _, fun Q q => .inl ⟨i, j, dd_int hu, dd_int hv, q⟩⟩
theorem str_app_len (a b : Str) : (a ++ b).length = a.length + b.length := by
  show (a.cps ++ b.cps).size = a.cps.size + b.cps.size
  exact Array.size_append
theorem rd_addS {a b : Str} (hl : a.length + b.length ≤ 16777216) : RD2 F K (rAddA K) B (.str a) (.str b) (.str (a ++ b)) := rd_of fun H u v hu hv =>
  ⟨.str (a ++ b), fun _ => .str _ (by rw [str_app_len, sizeLine_eq]; exact hl), fun Q q => .inr (.inl ⟨a, b, (dd_str hu).1, (dd_str hv).1, by rw [sizeLine_eq]; exact hl, q⟩)⟩
/-- + of lists: what their items are is kept -/
theorem rv_addL {a b : Addr} {vs us : List V} (hl : vs.length + us.length ≤ 16777216) {Z : PV} (hz : ∀ p B1, Ex B B1 → B1 p = none → Z (.ref p) (upd B1 p (.lst (vs ++ us)))) :
    RV2 F (rAddA K) B (fun v B => v = .ref a ∧ B a = some (.lst vs)) (fun v B => v = .ref b ∧ B b = some (.lst us)) Z := fun B1 e0 H u v jj ⟨hu, h1⟩ ⟨hv, h2⟩ Q q =>
  .inr (.inr (.inl ⟨a, b, vs, us, hu, hv, jj.e _ _ h1, jj.e _ _ h2, by rw [sizeLine_eq]; exact hl, fun p hp => q _ _ _ (Step.alloc jj.e hp) (jj.alloc hp) (hz p B1 e0 (fresh_back jj.e hp))⟩))
theorem rd_addL (hl : ds.length + es.length ≤ 16777216) : RD2 F K (rAddA K) B (.list ds) (.list es) (.list (ds ++ es)) := fun B1 e0 H u v jj hu hv Q q => by
  obtain ⟨a, xs, rfl, h1, l1, g1⟩ := dd_lst hu
  obtain ⟨b, ys, rfl, h2, l2, g2⟩ := dd_lst hv
  have hz : xs.length + ys.length ≤ sizeLine := by rw [g1.len, g2.len, sizeLine_eq]; exact hl
  exact .inr (.inr (.inl ⟨a, b, xs, ys, rfl, rfl, jj.e _ _ h1, jj.e _ _ h2, hz, fun p hp => q _ _ _ (Step.alloc jj.e hp) (jj.alloc hp) (.lst upd_same (by rw [List.length_append]; exact hz) ((g1.app g2).up (Ex.new (fresh_back jj.e hp))))⟩))
theorem rd_addT (hl : ds.length + es.length ≤ 16777216) : RD2 F K (rAddA K) B (.tuple ds) (.tuple es) (.tuple (ds ++ es)) := fun B1 e0 H u v jj hu hv Q q => by
  obtain ⟨a, xs, rfl, h1, l1, g1⟩ := dd_tup hu
  obtain ⟨b, ys, rfl, h2, l2, g2⟩ := dd_tup hv
  have hz : xs.length + ys.length ≤ sizeLine := by rw [g1.len, g2.len, sizeLine_eq]; exact hl
  refine .inr (.inr (.inr ⟨a, b, xs, ys, rfl, rfl, ex_t jj.e h1, ex_t jj.e h2, hz, fun e => ?_, fun _ e => ?_, fun _ _ p hp => q _ _ _ (Step.alloc jj.e hp) (jj.alloc hp) (.tup (ta_of upd_same) (by rw [List.length_append]; exact hz) ((g1.app g2).up (Ex.new (fresh_back jj.e hp))))⟩))
  · subst e
    cases g1
    exact q _ B1 H (Step.refl jj.e) jj hv
  · subst e
    cases g2
    rw [List.append_nil] at q
    exact q _ B1 H (Step.refl jj.e) jj hu
theorem rd_I0 {g : Int → Int → Int} : RD2 F K (rI0 fun i j => .int (g i j)) B (.int i) (.int j) (.int (g i j)) := rd_of fun H u v hu hv => ⟨.int (g i j), fun _ => .int _, fun Q q => ⟨i, j, dd_int hu, dd_int hv, q⟩⟩
theorem rd_I {C : Int → Int → Prop} {g : Int → Int → Int} (hc : C i j) : RD2 F K (rI C fun i j => .int (g i j)) B (.int i) (.int j) (.int (g i j)) := rd_of fun H u v hu hv => ⟨.int (g i j), fun _ => .int _, fun Q q => ⟨i, j, dd_int hu, dd_int hv, hc, q⟩⟩
theorem rd_sub : RD2 F K (rI0 fun i j => .int (i - j)) B (.int i) (.int j) (.int (i - j)) := rd_I0 (g := fun i j => i - j)
theorem rd_mul (hc : CMul i j) : RD2 F K (rI CMul fun i j => .int (i * j)) B (.int i) (.int j) (.int (i * j)) := rd_I (g := fun i j => i * j) hc
theorem rd_mod (hc : 0 < j) : RD2 F K (rI (fun _ j => 0 < j) fun i j => .int (i % j)) B (.int i) (.int j) (.int (i % j)) := rd_I (C := fun _ j => 0 < j) (g := fun i j => i % j) hc
theorem rd_fdiv (hc : CDiv i j) : RD2 F K (rI CDiv fun i j => .int (i / j)) B (.int i) (.int j) (.int (i / j)) := rd_I (g := fun i j => i / j) hc
theorem rd_pow (hc : CPow i j) : RD2 F K (rI CPow fun i j => .int (i ^ j.toNat)) B (.int i) (.int j) (.int (i ^ j.toNat)) := rd_I (g := fun i j => i ^ j.toNat) hc
theorem rd_cmp {p : Int → Int → Bool} : RD2 F K (rI0 fun i j => .bl (p i j)) B (.int i) (.int j) (.bool (p i j)) := rd_of fun H u v hu hv => ⟨.bl (p i j), fun _ => .bl _, fun Q q => ⟨i, j, dd_int hu, dd_int hv, q⟩⟩
theorem rd_lt : RD2 F K (rI0 fun i j => .bl (decide (i < j))) B (.int i) (.int j) (.bool (decide (i < j))) := rd_cmp (p := fun i j => decide (i < j))
theorem rd_le : RD2 F K (rI0 fun i j => .bl (decide (i ≤ j))) B (.int i) (.int j) (.bool (decide (i ≤ j))) := rd_cmp (p := fun i j => decide (i ≤ j))
theorem rd_gt : RD2 F K (rI0 fun i j => .bl (decide (j < i))) B (.int i) (.int j) (.bool (decide (j < i))) := rd_cmp (p := fun i j => decide (j < i))
theorem rd_ge : RD2 F K (rI0 fun i j => .bl (decide (j ≤ i))) B (.int i) (.int j) (.bool (decide (j ≤ i))) := rd_cmp (p := fun i j => decide (j ≤ i))
theorem rd_eqD (hx : SeqAt.shaped x = true) (hy : SeqAt.shaped y = true) : RD2 F K (rEqD K) B x y (.bool (PyData.eqv x y)) := rd_of fun H u v hu hv => ⟨.bl _, fun _ => .bl _, fun Q q => ⟨x, y, Dd.dp _ _ hu, Dd.dp _ _ hv, hx, hy, q⟩⟩
theorem rd_neD (hx : SeqAt.shaped x = true) (hy : SeqAt.shaped y = true) : RD2 F K (rNeD K) B x y (.bool (!PyData.eqv x y)) := rd_of fun H u v hu hv => ⟨.bl _, fun _ => .bl _, fun Q q => ⟨x, y, Dd.dp _ _ hu, Dd.dp _ _ hv, hx, hy, q⟩⟩
def isNon : PyData → Bool
  | .none => true
  | _ => false
theorem dd_isNon {H : Hp} {v : V} (h : Dd K H v d) : decide (v = .non) = isNon d := by
  cases h <;> first | rfl | exact decide_eq_false (fun z => nomatch z)
theorem rd_isN : RD2 F K (fun x y H Q => y = .non ∧ Q (.bl (decide (x = .non))) H) B x .none (.bool (isNon x)) := rd_of fun H u v hu hv => ⟨.bl (isNon x), fun _ => .bl _, fun Q q => ⟨dd_non hv, by
  show Q (.bl (decide (u = .non))) H
  rw [dd_isNon hu]
  exact q⟩⟩
theorem rd_notN : RD2 F K (fun x y H Q => y = .non ∧ Q (.bl (!decide (x = .non))) H) B x .none (.bool (!isNon x)) := rd_of fun H u v hu hv => ⟨.bl (!isNon x), fun _ => .bl _, fun Q q => ⟨dd_non hv, by
  show Q (.bl (!decide (u = .non))) H
  rw [dd_isNon hu]
  exact q⟩⟩
/-- x[i] -/
theorem atI_data {H : Hp} {vs : List V} (h : DdAll K H vs ds) (e : atI ds i = some d) : ∃ v, atI vs i = some v ∧ Dd K H v d := by
  unfold atI at e ⊢
  rw [h.len]
  obtain ⟨j, e1, e2⟩ := Option.bind_eq_some_iff.mp e
  obtain ⟨v, h1, h2⟩ := h.get e2
  exact ⟨v, by rw [e1]; exact h1, h2⟩
theorem rd_ixT (e : atI ds i = some d) : RD2 F K (rIx K) B (.tuple ds) (.int i) d := fun B1 e0 H u v jj hu hv Q q => by
  obtain ⟨a, xs, rfl, h1, l1, g1⟩ := dd_tup hu
  obtain ⟨w, e2, h2⟩ := atI_data g1 e
  exact .inr (.inl ⟨a, xs, i, w, rfl, dd_int hv, ex_t jj.e h1, e2, q _ B1 H (Step.refl jj.e) jj h2⟩)
theorem rd_ixL (e : atI ds i = some d) : RD2 F K (rIx K) B (.list ds) (.int i) d := fun B1 e0 H u v jj hu hv Q q => by
  obtain ⟨a, xs, rfl, h1, l1, g1⟩ := dd_lst hu
  obtain ⟨w, e2, h2⟩ := atI_data g1 e
  exact .inl ⟨a, xs, i, w, rfl, dd_int hv, sq_of (jj.e _ _ h1), e2, q _ B1 H (Step.refl jj.e) jj h2⟩
theorem rd_ixS {s : Str} {c : Nat} (e : atI s.cps.toList i = some c) : RD2 F K (rIx K) B (.str s) (.int i) (.str ⟨#[c]⟩) := fun B1 e0 H u v jj hu hv Q q => by
  obtain ⟨rfl, hl⟩ := dd_str hu
  exact .inr (.inr ⟨s, i, c, rfl, dd_int hv, hl, e, q _ B1 H (Step.refl jj.e) jj (.str _ (by show 1 ≤ sizeLine; decide))⟩)
/-- calls of built-ins -/
theorem rc_of {r : List V → Hp → VK → Prop} (h : ∀ H u, Dd K H u x → ∃ w, (∀ H', Dd K H' w z) ∧ ∀ Q : VK, Q w H → r [u] H Q) : RDc F K r B [x] z := fun B1 e0 H us jj hu Q q => by
  cases hu with
  | cons a t =>
    cases t
    obtain ⟨w, hw, hq⟩ := h H _ (Dd.up a jj.e)
    exact hq Q (q w B1 H (Step.refl jj.e) jj (hw B1))
def lenD : PyData → Int
  | .str x => (x.length : Nat)
  | .list ds => (ds.length : Nat)
  | .tuple ds => (ds.length : Nat)
  | _ => 0
def hasLen : PyData → Bool
  | .str _ => true
  | .list _ => true
  | .tuple _ => true
  | _ => false
theorem rc_len (h : hasLen x = true) : RDc F K (fun xs H Q => ∃ x n, xs = [x] ∧ LenV K x H n ∧ Q (.int (n : Nat)) H) B [x] (.int (lenD x)) := rc_of fun H u hu => by
  cases hu with
  | str s hl => exact ⟨.int (s.length : Nat), fun _ => .int _, fun Q q => ⟨_, s.length, rfl, ⟨hl, rfl⟩, q⟩⟩
  | @lst a xs ds hs hl ha => exact ⟨.int (ds.length : Nat), fun _ => .int _, fun Q q => ⟨_, ds.length, rfl, .inl ⟨xs, sq_of hs, ha.len.symm⟩, q⟩⟩
  | @tup a xs ds hs hl ha => exact ⟨.int (ds.length : Nat), fun _ => .int _, fun Q q => ⟨_, ds.length, rfl, .inr ⟨xs, hs.sq, ha.len.symm⟩, q⟩⟩
  | _ => cases h
theorem rc_int1 : RDc F K (fun xs H Q => (∃ i, xs = [.int i] ∧ Q (.int i) H) ∨ ∃ k, xs = [.bl k] ∧ Q (.int (if k then 1 else 0)) H) B [.int i] (.int i) := rc_of fun H u hu => by
  cases hu
  exact ⟨.int i, fun _ => .int _, fun Q q => .inl ⟨i, rfl, q⟩⟩
theorem rc_intB {k : Bool} : RDc F K (fun xs H Q => (∃ i, xs = [.int i] ∧ Q (.int i) H) ∨ ∃ k, xs = [.bl k] ∧ Q (.int (if k then 1 else 0)) H) B [.bool k] (.int (if k then 1 else 0)) := rc_of fun H u hu => by
  cases hu
  exact ⟨.int (if k then 1 else 0), fun _ => .int _, fun Q q => .inr ⟨k, rfl, q⟩⟩
theorem rc_abs : RDc F K (fun xs H Q => ∃ i, xs = [.int i] ∧ Q (.int (if i < 0 then -i else i)) H) B [.int i] (.int (if i < 0 then -i else i)) := rc_of fun H u hu => by
  cases hu
  exact ⟨.int _, fun _ => .int _, fun Q q => ⟨i, rfl, q⟩⟩
theorem rc_str (hl : i.natAbs.log2 < 1920) (hz : (toString i : Str).length ≤ 16777216) : RDc F K (fun xs H Q => ∃ i : Int, xs = [.int i] ∧ i.natAbs.log2 < 1920 ∧ Q (.str (toString i)) H) B [.int i] (.str (toString i)) := rc_of fun H u hu => by
  cases hu
  exact ⟨.str _, fun _ => .str _ (by rw [sizeLine_eq]; exact hz), fun Q q => ⟨i, rfl, hl, q⟩⟩
/-- isinstance(x, T), T a built-in class -/
def tyD : PyData → String
  | .none => "NoneType"
  | .bool _ => "bool"
  | .int _ => "int"
  | .str _ => "str"
  | .list _ => "list"
  | .tuple _ => "tuple"
  | .dict _ => "dict"
def isIntD : PyData → Bool
  | .int _ => true
  | .bool _ => true
  | _ => false
def isBoolD : PyData → Bool
  | .bool _ => true
  | _ => false
def isStrD : PyData → Bool
  | .str _ => true
  | _ => false
def isTupD : PyData → Bool
  | .tuple _ => true
  | _ => false
def isLstD : PyData → Bool
  | .list _ => true
  | _ => false
theorem kit_int (d : PyData) : kitB (tyD d) "int" = some (isIntD d) := by
  cases d <;> (dsimp only [tyD, isIntD]; decide +kernel)
theorem kit_bool (d : PyData) : kitB (tyD d) "bool" = some (isBoolD d) := by
  cases d <;> (dsimp only [tyD, isBoolD]; decide +kernel)
theorem kit_str (d : PyData) : kitB (tyD d) "str" = some (isStrD d) := by
  cases d <;> (dsimp only [tyD, isStrD]; decide +kernel)
theorem kit_tup (d : PyData) : kitB (tyD d) "tuple" = some (isTupD d) := by
  cases d <;> (dsimp only [tyD, isTupD]; decide +kernel)
theorem kit_lst (d : PyData) : kitB (tyD d) "list" = some (isLstD d) := by
  cases d <;> (dsimp only [tyD, isLstD]; decide +kernel)
theorem tyX {H : Hp} {v : V} (h : Dd K H v d) : TyX K H v (.type (tyD d)) := by
  cases h with
  | non => exact .base .non
  | bl b => exact .base (.bl b)
  | int i => exact .base (.int i)
  | str x hl => exact .base (.str x)
  | lst hs hl ha => exact .base (.lst hs)
  | tup hs hl ha =>
    rcases hs with hs | ⟨o, its, n, hk, hc, _⟩
    · exact .base (.tup hs)
    · exact .kTuple hk hc
theorem ed_isi {σ : L2.St} {te : TE} {T : String} {b : Bool} (h : ED F K te σ B d) (hb : kitB (tyD d) T = some b) : ED F K (tCB (rIsi K) (tCons te (tCons (tC (.ty T)) tNil))) σ B (.bool b) := fun B1 e0 H jj Q q =>
  h B1 e0 H jj _ fun v B2 H2 s2 j2 g => ⟨v, .ty T, _, _, b, rfl, .ty T, tyX (Dd.up g s2.bh), kit_ty hb, q _ B2 H2 s2 j2 (.bl b)⟩
end

/-! ### where a def's body stands: behind the entry (B0, H0), at (B, H) -/
structure At (F : Fm) (B0 H0 B H : Hp) : Prop where
  st : Step F.M B0 H0 B H
  j : Ok F B H
theorem At.start {F : Fm} {B H : Hp} (k : Ok F B H) : At F B H B H := ⟨Step.refl k.e, k⟩
theorem At.next {F : Fm} {B0 H0 B H B1 H1 : Hp} (a : At F B0 H0 B H) (s : Step F.M B H B1 H1) (j : Ok F B1 H1) : At F B0 H0 B1 H1 := ⟨a.st.trans s, j⟩
theorem At.e {F : Fm} {B0 H0 B H : Hp} (a : At F B0 H0 B H) : Ex B H := a.st.bh
section
variable {F : Fm} {K : PySem.W.Frag} {σ : L2.St} {B0 H0 B H : Hp} {te ta tb tc : TE} {tas : TA} {t u : TT} {d x y z : PyData} {ds : List PyData} {b c : Bool} {D : Ends} {tz tu tw : TS} {i : Nat} {P : PV}
theorem sv_asg (a : At F B0 H0 B H) (h : EV F te σ B P) (k : ∀ v B1 H1, Ex B B1 → At F B0 H0 B1 H1 → P v B1 → D.nx (σ.set i (some v)) H1) : tAsg te (gName i) D σ H := h B (Ex.refl B) H a.j _ fun v B1 H1 s j p => k v B1 H1 s.bb (a.next s j) p
theorem qv_asg (a : At F B0 H0 B H) (h : EV F te σ B P) (k : ∀ v B1 H1, Ex B B1 → At F B0 H0 B1 H1 → P v B1 → tz D (σ.set i (some v)) H1) : tSeq (tAsg te (gName i)) tz D σ H := sv_asg (D := { D with nx := tz D }) a h k
theorem qv_drop (a : At F B0 H0 B H) (h : EV F te σ B P) (k : ∀ v B1 H1, Ex B B1 → At F B0 H0 B1 H1 → P v B1 → tz D σ H1) : tSeq (tDrop te) tz D σ H := h B (Ex.refl B) H a.j _ fun v B1 H1 s j p => k v B1 H1 s.bb (a.next s j) p
theorem sv_ret (a : At F B0 H0 B H) (h : EV F te σ B P) (k : ∀ v B1 H1, Ex B B1 → At F B0 H0 B1 H1 → P v B1 → D.rt v H1) : tRet te D σ H := h B (Ex.refl B) H a.j _ fun v B1 H1 s j p => k v B1 H1 s.bb (a.next s j) p
theorem sv_retL (a : At F B0 H0 B H) (h : EDs F K tas σ B ds) (k : ∀ vs B1 H1, Step F.M B H B1 H1 → Ok F B1 H1 → DdAll K B1 vs ds → vs.length ≤ sizeLine ∧ ∀ p, H1 p = none → D.rt (.ref p) (upd H1 p (.lst vs))) : tRet (tLst tas) D σ H := h B (Ex.refl B) H a.j _ fun vs B1 H1 s j g => k vs B1 H1 s j g
theorem sv_if (a : At F B0 H0 B H) (h : ETt F t σ B b) (h1 : b = true → ∀ B1 H1, Ex B B1 → At F B0 H0 B1 H1 → tu D σ H1) (h2 : b = false → ∀ B1 H1, Ex B B1 → At F B0 H0 B1 H1 → tw D σ H1) : tIfS t tu tw D σ H := h B (Ex.refl B) H a.j _ fun B1 H1 s j => by
  cases b with
  | true =>
    show tu D σ H1
    exact h1 rfl B1 H1 s.bb (a.next s j)
  | false =>
    show tw D σ H1
    exact h2 rfl B1 H1 s.bb (a.next s j)
theorem qv_if (a : At F B0 H0 B H) (h : ETt F t σ B b) (h1 : b = true → ∀ B1 H1, Ex B B1 → At F B0 H0 B1 H1 → tu { D with nx := tz D } σ H1) (h2 : b = false → ∀ B1 H1, Ex B B1 → At F B0 H0 B1 H1 → tw { D with nx := tz D } σ H1) : tSeq (tIfS t tu tw) tz D σ H := sv_if (D := { D with nx := tz D }) a h h1 h2
/-- if c: return .. (no else) -/
theorem qv_when (a : At F B0 H0 B H) (h : ETt F t σ B b) (h1 : b = true → ∀ B1 H1, Ex B B1 → At F B0 H0 B1 H1 → tu { D with nx := tz D } σ H1) (h2 : b = false → ∀ B1 H1, Ex B B1 → At F B0 H0 B1 H1 → tz D σ H1) : tSeq (tIfS t tu tNext) tz D σ H := qv_if a h h1 h2
end

/-! ### promises: data in, data out, nothing changed -/
/-- called with data ds that pre lets, it gives data f ds -/
def spF (K : PySem.W.Frag) (pre : List PyData → Prop) (f : List PyData → PyData) : Sp := fun vs H Q _ => ∃ (B : Hp) (ds : List PyData), Ex B H ∧ DdAll K B vs ds ∧ pre ds ∧ ∀ v B' H', Step (fun _ => False) B H B' H' → Dd K B' v (f ds) → Q v H'
theorem rc_F {F : Fm} {K : PySem.W.Frag} {pre : List PyData → Prop} {f : List PyData → PyData} {E : XK} {B : Hp} {ds : List PyData} {z : PyData} (h : pre ds) (e : f ds = z) : RDc F K (fun vs H Q => spF K pre f vs H Q E) B ds z := fun B1 e0 H us jj hu Q q =>
  ⟨B1, ds, jj.e, hu, h, fun v B' H' s g => q v B' H' s.pure (jj.pure s) (by rw [← e]; exact g)⟩
theorem ed_F {F : Fm} {K : PySem.W.Frag} {pre : List PyData → Prop} {f : List PyData → PyData} {E : XK} {B : Hp} {ds : List PyData} {z : PyData} {σ : L2.St} {tas : TA} (ha : EDs F K tas σ B ds) (h : pre ds) (e : f ds = z) : ED F K (tCall (spF K pre f) [] E tas) σ B z := ev_call ha (rc_F h e)
end Dx

/-! Exceptions of own classes that are held as values: made, their fields read, asked by isinstance; G.__init__(self, ..), G an own class over ValueError. -/
namespace Ex
open PySem PySem.Spec PyProof.Rows L2
section
variable {X : Cx} {CX : CXT} {G C : Addr} {mc : Value} {o e : Expr} {es : List Expr} {ta : TA} {te : TE} {g x f : Str} {p1 p2 pos p : Pos}
theorem pe_ginit {pl : Sem Bool} (r : ClX.CRead X.K G mc) (k : PySem.W.findCls X.K (.ref G) mc "__init__" = some (.val (.builtin "ValueError.__init__"))) (hg : Gl X g) (hm : X.mg g = some (.ref G)) (ha : PA X (e :: es) ta)
    (hgd : (g == ("__debug__" : Str)) = false := by decide)
    (hc : eval (.Call (.Attribute (.Name g p1) "__init__" p2) (e :: es) [] pos) X.env = (do
      let ov ← eval (.Name g p1) X.env
      standAt p2.atName
      let (f, first) ← holding [ov] (getMethod ov "__init__" pl)
      callWith pos f first (backTo pos (starEach (e :: es) X.env)) (backToKw pos (keywordEach [] X.env))) := by rfl)
    (he : starEach (e :: es) X.env = (false, eval e X.env) :: starEach es X.env := by rfl) (hpl : (backTo pos (starEach es X.env)).any (·.1) = false := by rfl) :
    PE X (.Call (.Attribute (.Name g p1) "__init__" p2) (e :: es) [] pos) (tVeI X.K ta) := by
  refine ⟨fun pins s σ H Q I h => ?_⟩
  refine PySem.W.methodCall_KW (ld_glob I hg hm ?_ hgd) hc
  refine PySem.W.method_cls I.kIn r.ga (PySem.W.cls_value I.kIn r.rd k rfl ?_)
  show wpAny _ _ (callWith pos (Value.builtin "ValueError.__init__") [] (backTo pos (starEach (e :: es) X.env)) []) _ _ _
  refine PyProof.Rows.callWith_method1 (thn (ha.run pos pins _ σ H _ (I.tok _) h) fun us s1 ⟨vs, H1, I1, r1, a, C, ws, ev, hl, T, ea, q⟩ => ?_) he hpl
  subst ev
  cases r1 with
  | @cons _ u0 _ ur ra rw' =>
    obtain rfl : u0 = Value.ref a := ra
    have hlen : ur.length ≤ sizeLine := by
      rw [← Paired.length rw', sizeLine_eq]
      omega
    exact oinit_ok T I1 ea hlen fun s' J => ⟨.non, H1, J, rfl, q⟩
/-- C(e, ..) as a value, C's own __init__ keeping sp: the exception stands at a -/
def tMkV (C : Addr) (sp : Sp) (dvs : List V) (ta : TA) : TE := fun σ H Q => ta σ H fun vs H1 => vs.length ≤ 1000 ∧ ∀ a, H1 a = none → sp (.ref a :: (vs ++ dvs)) (upd H1 a (exo a C none))
  (fun v H2 => v = .non ∧ Q (.ref a) H2) (fun _ _ _ => False)
theorem pe_mkv {C fI : Addr} {k : Nat} {fd : FuncData} {ps : List Str} {sp : Sp} {ds : List Value} {dvs : List V} (T : OexC X.K C) (iC : PySem.W.findIn X.K (.ref C) "__init__" = some (some (.ref fI))) (tI : PySem.W.typeIn X.K (.ref fI) = some (.type "function"))
    (F1 : FnOk X.prog X.w X.K X.mg X.base CX k fI fd ps sp) (hr : Room (k + 1) X.A) (hb : Binds X.K fd ps ds) (hd : Vals dvs ds) (hx : Passes CX X (fun _ _ _ => False)) (hg : Gl X x) (hm : X.mg x = some (.ref C)) (ha : PA X (e :: es) ta)
    (hdb : (x == ("__debug__" : Str)) = false := by decide) (he : starEach (e :: es) X.env = (false, eval e X.env) :: starEach es X.env := by rfl) (hpl : (backTo pos (starEach es X.env)).any (·.1) = false := by rfl) :
    PE X (.Call (.Name x p) (e :: es) [] pos) (tMkV C sp dvs ta) := by
  refine ⟨fun pins s σ H Q I h => ?_⟩
  obtain ⟨nm, q, N, bs, bm, sn, sub, ab, col, dd, k0, k1, k2, k3, k5, hC, hbm⟩ := T.cls
  refine wpAny_Call_Name_kw (ld_glob I hg hm ?_ hdb)
  refine PySem.W.callWith_K (h₀ := X.base) I.ok.mod.kin T.kC (thn (ha.run pos pins s σ H _ I h) fun us s1 ⟨vs, H1, I1, r1, hz, q1⟩ => ⟨I1.kIn, ?_⟩) he hpl
  show wpAny _ _ (call (.ref C) us) _ _ _
  obtain ⟨hp, g, dr, tk, os⟩ := s1
  have hsz : hp.objs.size ≤ hp.objs.size + 1 := Nat.le_succ _
  have hn : H1 (hp.objs.size + 1) = none := I1.hok.fresh hsz
  have hq := q1 (hp.objs.size + 1) hn
  have kk : ∀ b o, hp.get? b = some o → ((hp.push (PySem.W.kdv_tup us)).push (PySem.HandSPX.excO C hp.objs.size)).get? b = some o := fun b o e => Heap.get?_push_of_some _ (Heap.get?_push_of_some _ e)
  have hget : ((hp.push (PySem.W.kdv_tup us)).push (PySem.HandSPX.excO C hp.objs.size)).get? (hp.objs.size + 1) = some (PySem.HandSPX.excO C hp.objs.size) := by heap_get
  have I2 : Inv X pins σ (upd H1 (hp.objs.size + 1) (exo (hp.objs.size + 1) C none)) ⟨(hp.push (PySem.W.kdv_tup us)).push (PySem.HandSPX.excO C hp.objs.size), g, dr, tk, os⟩ :=
    I1.laid (t' := tk) (a := hp.objs.size + 1) (o := exo (hp.objs.size + 1) C none) (h' := (hp.push (PySem.W.kdv_tup us)).push (PySem.HandSPX.excO C hp.objs.size)) kk hsz (exo_ok hget)
  have r2 : Vals (V.ref (hp.objs.size + 1) :: (vs ++ dvs)) (Value.ref (hp.objs.size + 1) :: (us ++ ds)) := .cons rfl (r1.append hd)
  have hl : (Value.ref (hp.objs.size + 1) :: us ++ ds).length = ps.length := by
    have e := r2.length
    rw [F1.len _ _ _ _ hq] at e
    exact e.symm
  have hus : us.length ≤ sizeLine := by
    rw [← Paired.length r1, sizeLine_eq]
    omega
  refine wpAny_call (PySem.HandSPX.call_own F.excBase_ValueError (fun Y => PySem.HandSPX.refsVE_contains Y bm hbm) (I1.kIn _ _ hC) (PySem.W.looks_findIn I1.kIn iC) (fun self => PySem.W.bind_fn I1.kIn self tI) hus
    (codeAny_mono (F1.run _ X.stack _ _ ⟨Value.ref (hp.objs.size + 1) :: us, []⟩ (Value.ref (hp.objs.size + 1) :: (us ++ ds)) _ _ (fun _ _ _ => False) (hr.make C us []) (I2.env0.make C us []) (hb _ (Value.ref (hp.objs.size + 1) :: us) I2.kIn hl) r2 hq) fun r s' hq' => ?_))
  cases r with
  | error er => exact hx pins σ _ _ er s' I2 hq'
  | ok fl =>
    cases fl with
    | ret u =>
      obtain ⟨v, H2, I3, rv, ev, q2⟩ := I2.after hq'
      subst ev
      exact ⟨rv, ⟨V.ref (hp.objs.size + 1), H2, I3, rfl, q2⟩⟩
    | next => exact False.elim hq'
    | brk => exact False.elim hq'
    | cont => exact False.elim hq'
/-- e.f, e an exception that is held as a value -/
def tOxf (K : PySem.W.Frag) (f : Str) (te : TE) : TE := fun σ H Q => te σ H fun x H1 => ∃ (a C d : Addr) (fs : List (Str × V)) (v : V), x = .ref a ∧ H1 a = some (exo a C (some d)) ∧ H1 d = some (exd d fs) ∧ XfC K C ∧ PySem.W.findIn K (.ref C) f = some none ∧ fs.lookup f = some v ∧ Q v H1
theorem pe_oxf (he : PE X e te) (hb : attributeBase e f X.env (eval e X.env) = eval e X.env := by rfl) : PE X (.Attribute e f pos) (tOxf X.K f te) := by
  refine ⟨fun pins s σ H Q I h => ?_⟩
  refine attr_of hb (thn (he.run pins s σ H _ I h) fun u s1 hh => ?_)
  obtain ⟨x, H1, I1, rx, a, C, dd, fs, v, ex, ea, ed, T, hno, l, q⟩ := hh
  subst ex
  obtain rfl : u = Value.ref a := rx
  obtain ⟨t1, ha⟩ := exo_at I1.hok ea
  obtain ⟨mA, hns, hr⟩ := exd_at I1.hok ed
  obtain ⟨od, ho, hl⟩ := lookIn_ns hns
  obtain ⟨u, hu, ru⟩ := RelO.some_of (v := v) (o := mA f) (by rw [← l]; exact hr f)
  have J : PySem.W.InstAt s1.heap a _ C (some od) := ⟨ha, rfl, rfl, ho⟩
  exact HandSPX.exc_get I1.kIn J T.ga T.gg T.exC (PySem.W.findObj_own T.hdC hno rfl (by rw [hl, hu])) (handed_of ru) ⟨v, H1, I1.tok _, ru, q⟩
/-- what the class C must say, so that isinstance asks its instances rightly -/
structure IsC (K : PySem.W.Frag) (C : Addr) : Prop where
  hc : (PySem.W.clsIn K C).isSome = true
  ha : PySem.W.findIn K (.ref C) "__class__" = some (some (.builtin "object.__class__"))
  hn : PySem.W.specialIn K (.builtin "object.__class__") "__get__" = some (some (.builtin "getset_descriptor.__get__"))
  ht : PySem.W.takesIn K (.builtin "object.__class__") = some true
  hm : PySem.W.mroIn K C (.type "object") = some true
def isCB (K : PySem.W.Frag) (C : Addr) : Bool := (PySem.W.clsIn K C).isSome && (decide (PySem.W.findIn K (.ref C) "__class__" = some (some (.builtin "object.__class__"))) && (decide (PySem.W.specialIn K (.builtin "object.__class__") "__get__" = some (some (.builtin "getset_descriptor.__get__"))) && (decide (PySem.W.takesIn K (.builtin "object.__class__") = some true) && decide (PySem.W.mroIn K C (.type "object") = some true))))
theorem isCB_ok {K : PySem.W.Frag} {C : Addr} (h : isCB K C = true) : IsC K C := by
  obtain ⟨h1, h⟩ := Bool.and_eq_true_iff.mp h
  obtain ⟨h2, h⟩ := Bool.and_eq_true_iff.mp h
  obtain ⟨h3, h⟩ := Bool.and_eq_true_iff.mp h
  obtain ⟨h4, h5⟩ := Bool.and_eq_true_iff.mp h
  exact ⟨h1, of_decide_eq_true h2, of_decide_eq_true h3, of_decide_eq_true h4, of_decide_eq_true h5⟩
/-- isinstance(e, c), e an exception that is held as a value -/
def rIsX (K : PySem.W.Frag) : List V → Hp → VK → Prop := fun xs H Q => ∃ (a C d : Addr) (fs : List (Str × V)) (c : V) (cv : Value) (b : Bool), xs = [.ref a, c] ∧ H a = some (exo a C (some d)) ∧ H d = some (exd d fs) ∧ XfC K C ∧ IsC K C ∧ ClsV c cv ∧ PySem.W.kitOne K (.ref C) cv = some b ∧ Q (.bl b) H
theorem call_isX : CallR X (.builtin "isinstance") (rIsX X.K) := by
  intro pins s σ H xs us Q I r h
  obtain ⟨a, C, d, fs, c, cv, b, rfl, ea, ed, T, Z, hcv, e, q⟩ := h
  obtain ⟨u1, u2, rfl, r1, r2⟩ := vals2 r
  have e2 := hcv.eq r2
  subst e2
  obtain rfl : u1 = Value.ref a := r1
  obtain ⟨t1, ha⟩ := exo_at I.hok ea
  obtain ⟨mA, hns, hr⟩ := exd_at I.hok ed
  obtain ⟨od, ho, hl⟩ := lookIn_ns hns
  have J : PySem.W.InstAt s.heap a _ C (some od) := ⟨ha, rfl, rfl, ho⟩
  exact PySem.W.kia_one (PySem.W.kitx_exc Z.hc T.ga T.gg T.exC Z.ha Z.hn Z.ht Z.hm) I.kIn J e (fun z => nomatch z) fun tk => ⟨.bl b, H, I.tok tk, rfl, q⟩
/-- isinstance(e, c), e the exception that the suite holds (its own dict at d) -/
def rIsS (K : PySem.W.Frag) (D a : Addr) : List V → Hp → VK → Prop := fun xs H Q => ∃ (c : V) (cv : Value) (b : Bool), xs = [.ref a, c] ∧ ClsV c cv ∧ PySem.W.kitOne K (.ref D) cv = some b ∧ Q (.bl b) H
/-- .. with an own dict -/
def rIsSd (K : PySem.W.Frag) (a : Addr) (cls : Value) (d : Option Addr) : List V → Hp → VK → Prop := fun xs H Q => ∃ (D dd : Addr) (fs : List (Str × V)) (c : V) (cv : Value) (b : Bool), xs = [.ref a, c] ∧ cls = .ref D ∧ d = some dd ∧ H dd = some (.xd fs) ∧ XfC K D ∧ IsC K D ∧ ClsV c cv ∧ PySem.W.kitOne K (.ref D) cv = some b ∧ Q (.bl b) H
theorem call_isSd {a : Addr} {oe : Obj} {cls : Value} {d : Option Addr} {pn : List (Addr × Obj)} (hz : Zc cls d oe) (hf : ∃ vs, oe.data = .fields vs) : CallR (X.suite a ((a, oe) :: pn)) (.builtin "isinstance") (rIsSd X.K a cls d) := by
  intro pins s σ H xs us Q I r h
  obtain ⟨D, dd, fs, c, cv, b, rfl, ec, ed, hd, T, Z, hcv, e, q⟩ := h
  obtain ⟨u1, u2, rfl, r1, r2⟩ := vals2 r
  have e2 := hcv.eq r2
  subst e2
  obtain rfl : u1 = Value.ref a := r1
  subst ec
  subst ed
  obtain ⟨hget, _⟩ := I.pin (a, oe) (List.mem_append_left _ List.mem_cons_self)
  obtain ⟨vs, hv⟩ := hf
  have hx : ObjOk X.prog X.w H s.heap dd (.xd fs) := I.hok dd _ hd
  obtain ⟨mA, hns, hr⟩ := hx
  obtain ⟨od, ho, hl⟩ := lookIn_ns hns
  have J : PySem.W.InstAt s.heap a oe D (some od) := ⟨hget, hz.1, by unfold PySem.W.notCls; rw [hv] <;> rfl, by rw [hz.2]; exact ho⟩
  exact PySem.W.kia_one (PySem.W.kitx_exc Z.hc T.ga T.gg T.exC Z.ha Z.hn Z.ht Z.hm) I.kIn J e (fun z => nomatch z) fun tk => ⟨.bl b, H, I.kept (t' := tk) fun _ _ z => z, rfl, q⟩
end
end Ex

/-! Loops and comprehensions over data. -/
namespace Dx
open PySem PySem.Spec PyProof.Rows L2 Evl

/-! ### a list or a tuple walked -/
def iSeq (K : PySem.W.Frag) (tl : TE) : TI := fun σ H R => tl σ H fun x H1 => ∃ a, x = .ref a ∧ (((∃ xs, SqL K H1 a xs) ∧ R (Itl K a) H1) ∨ ((∃ xs, SqT K H1 a xs) ∧ R (Itt K a) H1))
theorem pi_seq {X : Cx} {tg l : Expr} {tl : TE} (hl : PE X l tl) : PI X tg l (iSeq X.K tl) := by
  refine ⟨fun pins s σ H R I h => ?_⟩
  refine thn (hl.run pins s σ H _ I h) fun v s1 ⟨x, H1, I1, r1, q1⟩ => ?_
  obtain ⟨a, e, q⟩ := q1
  subst e
  cases r1
  rcases q with ⟨⟨xs, hq⟩, q⟩ | ⟨⟨xs, hq⟩, q⟩
  · obtain ⟨its, rv, p, hz⟩ := I1.list hq
    refine wpAny_pyIter_list p.isList ?_
    refine ⟨s1.heap.objs.size, [s1.heap.objs.size], _, _, H1, rfl, I1.kept (t' := s1.toks) fun b o e => Heap.get?_push_of_some _ e, turn_list a _, ⟨_, Heap.get?_push_size _ rfl, rfl, rfl⟩, fun b hb => ?_, q⟩
    have e : b = s1.heap.objs.size := by simpa using hb
    subst e
    exact I1.fpOk (Nat.le_refl _) (I1.hok.fresh (Nat.le_refl _))
  · obtain ⟨its, rv, p, hz⟩ := I1.tuple hq
    refine wpAny_pyIter_tuple (show s1.heap.IsTuple a its.toArray from p) ?_
    refine ⟨s1.heap.objs.size, [s1.heap.objs.size], _, _, H1, rfl, I1.kept (t' := s1.toks) fun b o e => Heap.get?_push_of_some _ e, turn_tuple a _, ⟨_, Heap.get?_push_size _ rfl, rfl, rfl⟩, fun b hb => ?_, q⟩
    have e : b = s1.heap.objs.size := by simpa using hb
    subst e
    exact I1.fpOk (Nat.le_refl _) (I1.hok.fresh (Nat.le_refl _))
/-- a value that is a list or tuple of items of which Ps holds -/
def SqV (K : PySem.W.Frag) (Ps : List V → Hp → Prop) : PV := fun v B => ∃ l vs, v = .ref l ∧ (SqL K B l vs ∨ SqT K B l vs) ∧ Ps vs B
theorem sqv_lst {K : PySem.W.Frag} {B : Hp} {v : V} {ds : List PyData} (h : Dd K B v (.list ds)) : SqV K (DDs K ds) v B := by
  obtain ⟨a, xs, rfl, h1, l1, g1⟩ := dd_lst h
  exact ⟨a, xs, rfl, .inl (sq_of h1), g1⟩
theorem sqv_tup {K : PySem.W.Frag} {B : Hp} {v : V} {ds : List PyData} (h : Dd K B v (.tuple ds)) : SqV K (DDs K ds) v B := by
  obtain ⟨a, xs, rfl, h1, l1, g1⟩ := dd_tup h
  exact ⟨a, xs, rfl, .inr h1, g1⟩

section
variable {F : Fm} {K : PySem.W.Frag} {σ : L2.St} {B0 H0 B H : Hp} {D : Ends} {tb tz : TS} {tl te : TE} {tt : TT} {j : Nat} {ds : List PyData} {Ps : List V → Hp → Prop}
theorem ev_seqL (h : ED F K tl σ B (.list ds)) : EV F tl σ B (SqV K (DDs K ds)) := h.imp fun _ _ _ p => sqv_lst p
theorem ev_seqT (h : ED F K tl σ B (.tuple ds)) : EV F tl σ B (SqV K (DDs K ds)) := h.imp fun _ _ _ p => sqv_tup p
/-- where a loop's turn stands -/
def Lp (F : Fm) (B0 H0 B : Hp) (I : L2.St → Hp → Prop) : L2.St → Hp → Prop := fun σ' H' => ∃ B', Ex B B' ∧ At F B0 H0 B' H' ∧ I σ' B'
theorem sv_for (a : At F B0 H0 B H) (h : EV F tl σ B (SqV K Ps)) (n : Nat) (hn : ∀ vs B1, Ps vs B1 → vs.length = n) (hu : Upcs Ps) (I : Nat → L2.St → Hp → Prop) (h0 : ∀ B1, Ex B B1 → I 0 σ B1)
    (hs : ∀ Bb i v vs σ' B1 H1, Ex B Bb → vs[i]? = some v → Ps vs B1 → Ex Bb B1 → At F B0 H0 B1 H1 → I i σ' B1 → tb { D with nx := Lp F B0 H0 Bb (I (i + 1)), ct := Lp F B0 H0 Bb (I (i + 1)), bk := D.nx } (σ'.set j (some v)) H1)
    (hd : ∀ σ' B1 H1, Ex B B1 → At F B0 H0 B1 H1 → I n σ' B1 → D.nx σ' H1) : tFor (iSeq K tl) (gName j) tb D σ H := by
  refine h B (Ex.refl B) H a.j _ fun v B1 H1 s1 j1 p => ?_
  obtain ⟨l, vs, rfl, hl, ps⟩ := p
  have a1 := a.next s1 j1
  have en := hn vs B1 ps
  refine ⟨l, rfl, ?_⟩
  rcases hl with hl | hl
  · refine .inl ⟨⟨vs, ex_l j1.e hl⟩, for_list (K := K) (xs := vs) (fun i => Lp F B0 H0 B1 (I i)) ⟨B1, Ex.refl B1, a1, h0 B1 s1.bb⟩ (fun i σ' H' _ ⟨B', e, a', _⟩ => ex_l a'.e (ex_l e hl)) (fun i x σ' H' hx ⟨B', e, a', hi⟩ => ?_) (fun σ' H' ⟨B', e, a', hi⟩ => hd σ' B' H' (s1.bb.trans e) a' (en ▸ hi))⟩
    exact hs B1 i x vs σ' B' H' s1.bb hx (hu _ _ _ e ps) e a' hi
  · refine .inr ⟨⟨vs, ex_t j1.e hl⟩, for_tup (K := K) (xs := vs) (fun i => Lp F B0 H0 B1 (I i)) ⟨B1, Ex.refl B1, a1, h0 B1 s1.bb⟩ (fun i σ' H' _ ⟨B', e, a', _⟩ => ex_t a'.e (ex_t e hl)) (fun i x σ' H' hx ⟨B', e, a', hi⟩ => ?_) (fun σ' H' ⟨B', e, a', hi⟩ => hd σ' B' H' (s1.bb.trans e) a' (en ▸ hi))⟩
    exact hs B1 i x vs σ' B' H' s1.bb hx (hu _ _ _ e ps) e a' hi
theorem qv_for (a : At F B0 H0 B H) (h : EV F tl σ B (SqV K Ps)) (n : Nat) (hn : ∀ vs B1, Ps vs B1 → vs.length = n) (hu : Upcs Ps) (I : Nat → L2.St → Hp → Prop) (h0 : ∀ B1, Ex B B1 → I 0 σ B1)
    (hs : ∀ Bb i v vs σ' B1 H1, Ex B Bb → vs[i]? = some v → Ps vs B1 → Ex Bb B1 → At F B0 H0 B1 H1 → I i σ' B1 → tb { D with nx := Lp F B0 H0 Bb (I (i + 1)), ct := Lp F B0 H0 Bb (I (i + 1)), bk := tz D } (σ'.set j (some v)) H1)
    (hd : ∀ σ' B1 H1, Ex B B1 → At F B0 H0 B1 H1 → I n σ' B1 → tz D σ' H1) : tSeq (tFor (iSeq K tl) (gName j) tb) tz D σ H := sv_for (D := { D with nx := tz D }) a h n hn hu I h0 hs hd
/-- over data -/
theorem qd_for (a : At F B0 H0 B H) (h : EV F tl σ B (SqV K (DDs K ds))) (I : Nat → L2.St → Hp → Prop) (h0 : ∀ B1, Ex B B1 → I 0 σ B1)
    (hs : ∀ Bb i v d σ' B1 H1, Ex B Bb → ds[i]? = some d → Dd K B1 v d → Ex Bb B1 → At F B0 H0 B1 H1 → I i σ' B1 → tb { D with nx := Lp F B0 H0 Bb (I (i + 1)), ct := Lp F B0 H0 Bb (I (i + 1)), bk := tz D } (σ'.set j (some v)) H1)
    (hd : ∀ σ' B1 H1, Ex B B1 → At F B0 H0 B1 H1 → I ds.length σ' B1 → tz D σ' H1) : tSeq (tFor (iSeq K tl) (gName j) tb) tz D σ H :=
  qv_for a h ds.length (fun vs B1 p => DdAll.len p) upc_dds I h0 (fun Bb i v vs σ' B1 H1 e0 hv ps e a' hi => by
    obtain ⟨d, h1, h2⟩ := DdAll.getv (show DdAll K B1 vs ds from ps) hv
    exact hs Bb i v d σ' B1 H1 e0 h1 h2 e a' hi) hd
/-- over range(n) -/
theorem qd_forR {ta : TA} {n : Int} (a : At F B0 H0 B H) (h : EDs F K ta σ B [.int n]) (hn : -4611686018427387904 ≤ n ∧ n < 4611686018427387904) (I : Nat → L2.St → Hp → Prop) (h0 : ∀ B1, Ex B B1 → I 0 σ B1)
    (hs : ∀ Bb (i : Nat) σ' B1 H1, Ex B Bb → (i : Int) < n → Ex Bb B1 → At F B0 H0 B1 H1 → I i σ' B1 → tb { D with nx := Lp F B0 H0 Bb (I (i + 1)), ct := Lp F B0 H0 Bb (I (i + 1)), bk := tz D } (σ'.set j (some (.int (i : Int)))) H1)
    (hd : ∀ σ' B1 H1, Ex B B1 → At F B0 H0 B1 H1 → I n.toNat σ' B1 → tz D σ' H1) : tSeq (tFor (iRng1 ta) (gName j) tb) tz D σ H := by
  refine h B (Ex.refl B) H a.j _ fun vs B1 H1 s1 j1 p => ?_
  have a1 := a.next s1 j1
  cases p with
  | cons p t =>
    cases t
    obtain rfl := dd_int p
    refine ⟨n, rfl, hn.1, hn.2, for_range (lo := 0) (n := n.toNat) (D := { D with nx := tz D }) (fun i => Lp F B0 H0 B1 (I i)) ⟨B1, Ex.refl B1, a1, h0 B1 s1.bb⟩ (fun i σ' H' hx ⟨B', e, a', hi⟩ => ?_) (fun σ' H' ⟨B', e, a', hi⟩ => hd σ' B' H' (s1.bb.trans e) a' hi)⟩
    have e0 : (0 : Int) + (i : Int) = (i : Int) := Int.zero_add _
    show tb _ (σ'.set j (some (.int ((0 : Int) + (i : Int))))) H'
    rw [e0]
    exact hs B1 i σ' B' H' s1.bb (by omega) e a' hi
/-- while -/
theorem qv_while {t : TT} (a : At F B0 H0 B H) (W : Nat → L2.St → Hp → Prop) (m0 : Nat) (h0 : W m0 σ B)
    (hs : ∀ m σ' B1 H1, Ex B B1 → At F B0 H0 B1 H1 → W m σ' B1 → ∃ b, ETt F t σ' B1 b ∧ (b = true → ∀ B2 H2, Ex B1 B2 → At F B0 H0 B2 H2 → tb { D with nx := fun σ2 H3 => ∃ m', m' < m ∧ Lp F B0 H0 B (W m') σ2 H3, ct := fun σ2 H3 => ∃ m', m' < m ∧ Lp F B0 H0 B (W m') σ2 H3, bk := tz D } σ' H2) ∧
      (b = false → ∀ B2 H2, Ex B1 B2 → At F B0 H0 B2 H2 → tz D σ' H2)) : tSeq (tWhile t tb) tz D σ H := by
  refine ⟨fun m => Lp F B0 H0 B (W m), ⟨m0, B, Ex.refl B, a, h0⟩, fun m σ' H' ⟨B1, e, a1, hw⟩ => ?_⟩
  obtain ⟨b, hb, h1, h2⟩ := hs m σ' B1 H' e a1 hw
  refine hb B1 (Ex.refl B1) H' a1.j _ fun B2 H2 s2 j2 => ?_
  cases b with
  | true => exact ⟨_, fun σ2 H3 q => q, h1 rfl B2 H2 s2.bb (a1.next s2 j2)⟩
  | false => exact h2 rfl B2 H2 s2.bb (a1.next s2 j2)
end

/-! ### comprehensions -/
section
variable {F : Fm} {K : PySem.W.Frag} {σ : L2.St} {B : Hp} {tl te : TE} {tt : TT} {j : Nat} {ds : List PyData} {vsN : List Nat}
/-- the list that grows at Dl; B1, H1: ahead of it -/
def Cq (F : Fm) (K : PySem.W.Frag) (B1 H1 : Hp) (Dl : Addr) (ds : List PyData) (H' : Hp) : Prop := ∃ B' acc, Step F.M B1 H1 B' H' ∧ Ok F B' H' ∧ B' Dl = none ∧ H' Dl = some (.lst acc) ∧ DdAll K B' acc ds
theorem cq_start {B1 H1 : Hp} {Dl : Addr} (k : Ok F B1 H1) (hD : H1 Dl = none) : Cq F K B1 H1 Dl [] (upd H1 Dl (.lst [])) := by
  have hb : B1 Dl = none := fresh_back k.e hD
  have s : Step F.M B1 H1 B1 (upd H1 Dl (.lst [])) := ⟨Ex.refl B1, fun a o h => by rw [upd_ne (ne_of_none h hb)]; exact k.e a o h, fun a o _ h => by rw [upd_ne (ne_of_none h hD)]; exact h, fun a h _ => h, fun a n => by
    have ha : a ≠ Dl := fun z => n (z ▸ hD)
    rw [upd_ne ha]
    exact n, fun a n => n.upd fun z => n.ne (z ▸ hD)⟩
  exact ⟨B1, [], s, k.next s (F.up _ _ (Ex.new hD) k.j), hb, upd_same, .nil⟩
/-- one item more -/
theorem cq_more {B1 H1 B' H' : Hp} {Dl : Addr} {acc : List V} {d : PyData} {ds : List PyData} {y : V} (hD : H1 Dl = none) (k1 : Ok F B1 H1) (s : Step F.M B1 H1 B' H') (k : Ok F B' H') (hb : B' Dl = none) (hd : H' Dl = some (.lst acc)) (ha : DdAll K B' acc ds) (hy : Dd K B' y d) :
    Cq F K B1 H1 Dl (ds ++ [d]) (upd H' Dl (.lst (acc ++ [y]))) := by
  have nm : ¬ F.M Dl := fun m => (F.lv H1 Dl k1.j m).ne hD
  have s2 : Step F.M B1 H1 B' (upd H' Dl (.lst (acc ++ [y]))) := ⟨s.bb, fun a o h => by rw [upd_ne (ne_of_none h hb)]; exact k.e a o h, fun a o n h => by rw [upd_ne (ne_of_none h hD)]; exact s.keep a o n h, s.sep, fun a n => by
    have ha : a ≠ Dl := fun z => n (z ▸ hD)
    rw [upd_ne ha]
    exact s.live a n, fun a n => (s.liv a n).upd fun z => n.ne (z ▸ hD)⟩
  have j2 : F.J (upd H' Dl (.lst (acc ++ [y]))) := by
    -- J holds of H' and of what stands in it: the new list is none of M
    exact F.fr H' Dl _ k.j nm
  exact ⟨B', acc ++ [y], s2, k1.next s2 j2, hb, upd_same, ha.snoc hy⟩
/-- what stands is data -/
theorem cq_done {B1 H1 H' : Hp} {Dl : Addr} {ds : List PyData} (k1 : Ok F B1 H1) (hD : H1 Dl = none) (hl : ds.length ≤ 16777216) (c : Cq F K B1 H1 Dl ds H') : ∃ B2, Step F.M B1 H1 B2 H' ∧ Ok F B2 H' ∧ Dd K B2 (.ref Dl) (.list ds) := by
  obtain ⟨B', acc, s, k, hb, hd, ha⟩ := c
  have s2 : Step F.M B1 H1 (upd B' Dl (.lst acc)) H' := ⟨s.bb.trans (Ex.new hb), fun a o h => by
    by_cases e : a = Dl
    · subst e
      rw [upd_same] at h
      rw [hd]
      exact h
    · rw [upd_ne e] at h
      exact k.e a o h, s.keep, fun a h n => by
    have e : a ≠ Dl := fun z => n.ne (z ▸ hD)
    rw [upd_ne e]
    exact s.sep a h n, s.live, s.liv⟩
  exact ⟨_, s2, k1.next s2 k.j, .lst upd_same (by rw [ha.len, sizeLine_eq]; exact hl) (ha.up (Ex.new hb))⟩
/-- one turn, with its test -/
theorem cq_turn {B1 H1 H' : Hp} {Dl : Addr} {acc0 : List PyData} {σ2 : L2.St} {bb : Bool} {d : PyData} (k1 : Ok F B1 H1) (hD : H1 Dl = none) (hl : acc0.length < 16777216) (c : Cq F K B1 H1 Dl acc0 H')
    (ht : ∀ B', Ex B1 B' → ETt F tt σ2 B' bb) (he : bb = true → ∀ B', Ex B1 B' → ED F K te σ2 B' d) :
    tt σ2 H' fun b H3 => if b = true then te σ2 H3 fun y H4 => ∃ acc, H4 Dl = some (.lst acc) ∧ acc.length < sizeLine ∧ Cq F K B1 H1 Dl (acc0 ++ (if bb = true then [d] else [])) (upd H4 Dl (.lst (acc ++ [y]))) else Cq F K B1 H1 Dl (acc0 ++ (if bb = true then [d] else [])) H3 := by
  obtain ⟨B', acc, s, k, hb, hd, ha⟩ := c
  have nm : ¬ F.M Dl := fun m => (F.lv H1 Dl k1.j m).ne hD
  have lv : Liv H' Dl := ⟨_, hd, trivial⟩
  refine ht B' s.bb B' (Ex.refl B') H' k _ fun B3 H3 s3 k3 => ?_
  have hb3 := s3.sep Dl hb lv
  have hd3 := s3.keep Dl _ nm hd
  cases bb with
  | true =>
    show te σ2 H3 _
    refine he rfl B3 (s.bb.trans s3.bb) B3 (Ex.refl B3) H3 k3 _ fun y B4 H4 s4 k4 g => ?_
    have lv3 : Liv H3 Dl := s3.liv Dl lv
    refine ⟨acc, s4.keep Dl _ nm hd3, ?_, ?_⟩
    · rw [ha.len, sizeLine_eq]
      exact hl
    · exact cq_more hD k1 ((s.trans s3).trans s4) k4 (s4.sep Dl hb3 lv3) (s4.keep Dl _ nm hd3) (ha.up (s3.bb.trans s4.bb)) g
  | false =>
    show Cq F K B1 H1 Dl (acc0 ++ []) H3
    rw [List.append_nil]
    exact ⟨B3, acc, s.trans s3, k3, hb3, hd3, ha.up s3.bb⟩
theorem filter_snoc {α : Type} (p : α → Bool) (g : α → PyData) (l : List α) (x : α) : ((l ++ [x]).filter p).map g = (l.filter p).map g ++ (if p x = true then [g x] else []) := by
  rw [List.filter_append, List.map_append]
  congr 1
  by_cases h : p x = true
  · rw [if_pos h, List.filter_cons, if_pos h]
    rfl
  · rw [if_neg h, List.filter_cons, if_neg h]
    rfl
theorem take_snoc {α : Type} {l : List α} {i : Nat} {x : α} (h : l[i]? = some x) : l.take (i + 1) = l.take i ++ [x] := by
  rw [List.take_add_one, h]
  rfl
/-- [te for x in a list or tuple of data if tt] -/
theorem ed_lcD (p : PyData → Bool) (g : PyData → PyData) (h : EV F tl σ B (SqV K (DDs K ds))) (hz : ds.length ≤ 16777216) (hw : ∀ x, wipe ((wipe σ vsN).set j (some x)) vsN = wipe σ vsN)
    (ht : ∀ d v B1, d ∈ ds → Ex B B1 → Dd K B1 v d → ETt F tt ((wipe σ vsN).set j (some v)) B1 (p d))
    (he : ∀ d v B1, d ∈ ds → p d = true → Ex B B1 → Dd K B1 v d → ED F K te ((wipe σ vsN).set j (some v)) B1 (g d)) :
    ED F K (tLc (iSeq K tl) (gName j) tt te vsN) σ B (.list ((ds.filter p).map g)) := fun B0 e0 H0 k0 Q q => by
  refine h B0 e0 H0 k0 _ fun v B1 H1 s1 k1 pv => ?_
  obtain ⟨l, vs, rfl, hl, ps⟩ := pv
  have ps' : DdAll K B1 vs ds := ps
  have en := ps'.len
  have fl : ∀ i, ((ds.take i).filter p).length ≤ i := fun i => Nat.le_trans (List.length_filter_le _ _) (by rw [List.length_take]; exact Nat.min_le_left _ _)
  have turn : ∀ (Dl : Addr), H1 Dl = none → ∀ i x H', vs[i]? = some x → Cq F K B1 H1 Dl (((ds.take i).filter p).map g) H' → gName j x (wipe σ vsN) H' fun σ2 H2 => wipe σ2 vsN = wipe σ vsN ∧ tt σ2 H2 fun b H3 =>
      if b = true then te σ2 H3 fun y H4 => ∃ acc, H4 Dl = some (.lst acc) ∧ acc.length < sizeLine ∧ Cq F K B1 H1 Dl (((ds.take (i + 1)).filter p).map g) (upd H4 Dl (.lst (acc ++ [y]))) else Cq F K B1 H1 Dl (((ds.take (i + 1)).filter p).map g) H3 := by
    intro Dl hD i x H' hx c
    obtain ⟨d, hd, hdv⟩ := ps'.getv hx
    have hm : d ∈ ds := List.mem_of_getElem? hd
    have hi : i < ds.length := (List.getElem?_eq_some_iff.mp hd).1
    refine ⟨hw x, ?_⟩
    rw [take_snoc hd, filter_snoc]
    exact cq_turn k1 hD (by rw [List.length_map]; exact Nat.lt_of_le_of_lt (fl i) (by omega)) c (fun B' e => ht d x B' hm ((e0.trans s1.bb).trans e) (hdv.up e)) (fun hp B' e => he d x B' hm hp ((e0.trans s1.bb).trans e) (hdv.up e))
  have fin : ∀ (Dl : Addr), H1 Dl = none → ∀ H', Cq F K B1 H1 Dl (((ds.take vs.length).filter p).map g) H' → Q (.ref Dl) H' := by
    intro Dl hD H' c
    rw [en, List.take_length] at c
    obtain ⟨B2, s2, k2, g2⟩ := cq_done k1 hD (by rw [List.length_map]; exact Nat.le_trans (List.length_filter_le _ _) hz) c
    exact q _ B2 H' (s1.trans s2) k2 g2
  refine ⟨l, rfl, ?_⟩
  rcases hl with hl | hl
  · refine .inl ⟨⟨vs, ex_l k1.e hl⟩, fun Dl hD => lc_list (K := K) (xs := vs) (fun i => Cq F K B1 H1 Dl (((ds.take i).filter p).map g)) (cq_start k1 hD) (fun i H' _ c => ?_) (fun i x H' hx c => turn Dl hD i x H' hx c) (fun H' c => fin Dl hD H' c)⟩
    obtain ⟨B', acc, s, k, _⟩ := c
    exact ex_l k.e (ex_l s.bb hl)
  · refine .inr ⟨⟨vs, ex_t k1.e hl⟩, fun Dl hD => lc_tup (K := K) (xs := vs) (fun i => Cq F K B1 H1 Dl (((ds.take i).filter p).map g)) (cq_start k1 hD) (fun i H' _ c => ?_) (fun i x H' hx c => turn Dl hD i x H' hx c) (fun H' c => fin Dl hD H' c)⟩
    obtain ⟨B', acc, s, k, _⟩ := c
    exact ex_t k.e (ex_t s.bb hl)
/-- [te for i in range(n) if tt] -/
theorem ed_lcR {ta : TA} {n : Int} (p : Nat → Bool) (g : Nat → PyData) (h : EDs F K ta σ B [.int n]) (hn : -4611686018427387904 ≤ n ∧ n ≤ 16777216) (hw : ∀ x, wipe ((wipe σ vsN).set j (some x)) vsN = wipe σ vsN)
    (ht : ∀ (i : Nat) B1, (i : Int) < n → Ex B B1 → ETt F tt ((wipe σ vsN).set j (some (.int (i : Int)))) B1 (p i))
    (he : ∀ (i : Nat) B1, (i : Int) < n → p i = true → Ex B B1 → ED F K te ((wipe σ vsN).set j (some (.int (i : Int)))) B1 (g i)) :
    ED F K (tLc (iRng1 ta) (gName j) tt te vsN) σ B (.list (((List.range n.toNat).filter p).map g)) := fun B0 e0 H0 k0 Q q => by
  refine h B0 e0 H0 k0 _ fun vs B1 H1 s1 k1 pv => ?_
  cases pv with
  | cons pv t =>
    cases t
    obtain rfl := dd_int pv
    have fl : ∀ i, ((List.range i).filter p).length ≤ i := fun i => Nat.le_trans (List.length_filter_le _ _) (by rw [List.length_range]; exact Nat.le_refl _)
    refine ⟨n, rfl, hn.1, by omega, fun Dl hD => lc_range (lo := 0) (n := n.toNat) (fun i => Cq F K B1 H1 Dl (((List.range i).filter p).map g)) (cq_start k1 hD) (fun i H' hi c => ?_) (fun H' c => ?_)⟩
    · have e1 : (0 : Int) + (i : Int) = (i : Int) := Int.zero_add _
      show wipe ((wipe σ vsN).set j (some (.int ((0 : Int) + (i : Int))))) vsN = wipe σ vsN ∧ tt ((wipe σ vsN).set j (some (.int ((0 : Int) + (i : Int))))) H' _
      rw [e1]
      refine ⟨hw _, ?_⟩
      rw [List.range_succ, filter_snoc]
      exact cq_turn k1 hD (by rw [List.length_map]; exact Nat.lt_of_le_of_lt (fl i) (by omega)) c (fun B' e => ht i B' (by omega) ((e0.trans s1.bb).trans e)) (fun hp B' e => he i B' (by omega) hp ((e0.trans s1.bb).trans e))
    · obtain ⟨B2, s2, k2, g2⟩ := cq_done k1 hD (by rw [List.length_map]; exact Nat.le_trans (fl _) (by omega)) c
      exact q _ B2 H' (s1.trans s2) k2 g2
/-- no test -/
theorem et_yes {σ : L2.St} : ETt F tYes σ B true := fun B1 e0 H k Q q => q B1 H (Step.refl k.e) k
end
end Dx

/-! Defs that are called, boxes of draws, exceptions as values. -/
namespace Dx
open PySem PySem.Spec PyProof.Rows L2 Evl Ex

/-! ### built-in names -/
theorem bt_len : bootBuiltins "len" = some (.builtin "len") := by decide +kernel
theorem bt_abs : bootBuiltins "abs" = some (.builtin "abs") := by decide +kernel
theorem bt_isinstance : bootBuiltins "isinstance" = some (.builtin "isinstance") := by decide +kernel
theorem bt_all : bootBuiltins "all" = some (.builtin "all") := by decide +kernel
theorem bt_any : bootBuiltins "any" = some (.builtin "any") := by decide +kernel
theorem bt_int : bootBuiltins "int" = some (.type "int") := by decide +kernel
theorem bt_str : bootBuiltins "str" = some (.type "str") := by decide +kernel
theorem bt_bool : bootBuiltins "bool" = some (.type "bool") := by decide +kernel
theorem bt_tuple : bootBuiltins "tuple" = some (.type "tuple") := by decide +kernel
theorem bt_list : bootBuiltins "list" = some (.type "list") := by decide +kernel
theorem bt_ValueError : bootBuiltins "ValueError" = some (.type "ValueError") := by decide +kernel

/-! ### a def that others call -/
structure Callee (P : Program) (w : World) (K : PySem.W.Frag) (mg : Str → Option Value) (base : Heap) (x : Str) (k : Nat) (ps : List Str) (sp : Sp) : Prop where
  ex : ∃ f fd, FnOk P w K mg base CX0 k f fd ps sp ∧ mg x = some (.ref f) ∧ PySem.W.keepIn K (.ref f) = true ∧ Binds K fd ps []
section
variable {X : Cx} {x : Str} {k : Nat} {ps : List Str} {sp : Sp} {E : XK} {e : Expr} {es : List Expr} {t : TA} {p pos : Pos}
theorem pe_callC (C : Callee X.prog X.w X.K X.mg X.base x k ps sp) (hr : Room k X.A) (hg : Gl X x) (hx : Passes CX0 X E) (ha : PA X (e :: es) t) (hdb : (x == ("__debug__" : Str)) = false := by decide)
    (he : starEach (e :: es) X.env = (false, eval e X.env) :: starEach es X.env := by rfl) (hpl : (backTo pos (starEach es X.env)).any (·.1) = false := by rfl) :
    PE X (.Call (.Name x p) (e :: es) [] pos) (tCall sp [] E t) := by
  obtain ⟨f, fd, F, hm, hk, hb⟩ := C.ex
  exact pe_call F hr hg hm hk hb .nil hx ha hdb he hpl
theorem pe_callC0 (C : Callee X.prog X.w X.K X.mg X.base x k ps sp) (hr : Room k X.A) (hg : Gl X x) (hx : Passes CX0 X E) (hdb : (x == ("__debug__" : Str)) = false := by decide) :
    PE X (.Call (.Name x p) [] [] pos) (tCall sp [] E tNil) := by
  obtain ⟨f, fd, F, hm, hk, hb⟩ := C.ex
  exact pe_call0 F hr hg hm hk hb .nil hx hdb
theorem pe_gint {i : Int} (hg : Gl X x) (hm : ∃ t, X.mg x = some (.int i t)) (hd : (x == ("__debug__" : Str)) = false := by decide) : PE X (.Name x pos) (tC (.int i)) := by
  obtain ⟨t, hm⟩ := hm
  exact pe_glob hg hm ⟨t, rfl⟩ hd
end

/-! ### a box of draws -/
def bxJ (p : Addr) (H : Hp) : Prop := ∃ g s : Int, H p = some (.lst [.int g, .int s])
theorem bxJ_live {p a : Addr} {H : Hp} (h : bxJ p H) (m : a = p) : Liv H a := by
  obtain ⟨g, s, h⟩ := h
  subst m
  exact ⟨_, h, trivial⟩
theorem bxJ_fr {p a : Addr} {H : Hp} {o : HO} (h : bxJ p H) (n : ¬ a = p) : bxJ p (upd H a o) := by
  obtain ⟨g, s, h⟩ := h
  exact ⟨g, s, by rw [upd_ne (fun z => n z.symm)]; exact h⟩
def Fm.box (p : Addr) : Fm := ⟨fun a => a = p, bxJ p, fun _ _ e ⟨g, s, h⟩ => ⟨g, s, e _ _ h⟩, fun _ _ h m => bxJ_live h m, fun _ _ _ h n => bxJ_fr h n⟩
/-- f(box, ..): draws, changes the box alone -/
def spX (K : PySem.W.Frag) (pre : List PyData → Prop) (P : List PyData → PV) : Sp := fun vs H Q _ => ∃ (p : Addr) (us : List V) (B : Hp) (ds : List PyData), vs = .ref p :: us ∧ Ok (Fm.box p) B H ∧ DdAll K B us ds ∧ pre ds ∧
  ∀ v B' H', Step (fun a => a = p) B H B' H' → Ok (Fm.box p) B' H' → P ds v B' → Q v H'
section
variable {K : PySem.W.Frag} {σ : L2.St} {B : Hp} {p : Addr} {i : Nat} {tas : TA} {ds : List PyData} {pre : List PyData → Prop} {P : List PyData → PV} {E : XK} {Z : PV}
theorem ev_X (hi : σ[i]? = some (some (.ref p))) (ha : EDs (Fm.box p) K tas σ B ds) (h : pre ds) (hz : ∀ v B1, Ex B B1 → P ds v B1 → Z v B1) : EV (Fm.box p) (tCall (spX K pre P) [] E (tCons (tVar i) tas)) σ B Z := fun B1 e0 H j Q q =>
  ⟨.ref p, hi, ha B1 e0 H j _ fun us B2 H2 s2 j2 g => by
    show spX K pre P ((V.ref p :: us) ++ []) H2 Q E
    rw [List.append_nil]
    exact ⟨p, us, B2, ds, rfl, j2, g, h, fun v B3 H3 s3 j3 pz => q v B3 H3 (s2.trans s3) j3 (hz v B3 ((e0.trans s2.bb).trans s3.bb) pz)⟩⟩
end

/-! ### exceptions as values -/
def spInit (C : Addr) (f : Str) : Sp := fun vs H Q _ => ∃ (a : Addr) (v : V), vs = [.ref a, v] ∧ H a = some (exo a C none) ∧ ∀ dx, H dx = none → dx ≠ a → Q .non (upd (upd H dx (exd dx [(f, v)])) a (exo a C (some dx)))
structure ExcAt (P : Program) (w : World) (K : PySem.W.Frag) (mg : Str → Option Value) (base : Heap) (x f : Str) (C : Addr) : Prop where
  oc : OexC K C
  xf : XfC K C
  isc : IsC K C
  no : PySem.W.findIn K (.ref C) f = some none
  g : mg x = some (.ref C)
  ini : ∃ fI fd, PySem.W.findIn K (.ref C) "__init__" = some (some (.ref fI)) ∧ PySem.W.typeIn K (.ref fI) = some (.type "function") ∧ FnOk P w K mg base CX0 1 fI fd ["self", f] (spInit C f) ∧ Binds K fd ["self", f] []
section
variable {X : Cx} {x f : Str} {C : Addr} {e : Expr} {ta : TA} {p pos : Pos}
theorem pe_mkE (c : ExcAt X.prog X.w X.K X.mg X.base x f C) (hr : Room 2 X.A) (hg : Gl X x) (ha : PA X [e] ta) (hdb : (x == ("__debug__" : Str)) = false := by decide)
    (he : starEach [e] X.env = (false, eval e X.env) :: starEach [] X.env := by rfl) (hpl : (backTo pos (starEach [] X.env)).any (·.1) = false := by rfl) :
    PE X (.Call (.Name x p) [e] [] pos) (tMkV C (spInit C f) [] ta) := by
  obtain ⟨fI, fd, h1, h2, h3, h4⟩ := c.ini
  exact pe_mkv c.oc h1 h2 h3 hr h4 .nil pass0 hg c.g ha hdb he hpl
end
/-- an error of the class at C that keeps data d under the name f -/
def EvX (K : PySem.W.Frag) (C : Addr) (f : Str) (d : PyData) : PV := fun v B => ∃ (a dx : Addr) (u : V), v = .ref a ∧ B a = some (exo a C (some dx)) ∧ B dx = some (exd dx [(f, u)]) ∧ Dd K B u d
section
variable {F : Fm} {K : PySem.W.Frag} {σ : L2.St} {B : Hp} {te : TE} {d : PyData} {C : Addr} {f : Str}
theorem upc_evx : Upc (EvX K C f d) := fun v B B' e h => by
  obtain ⟨a, dx, u, rfl, h1, h2, h3⟩ := h
  exact ⟨a, dx, u, rfl, e _ _ h1, e _ _ h2, Dd.up h3 e⟩
theorem upd3 {H : Hp} {a b : Addr} {o u v : HO} (h : b ≠ a) : upd (upd (upd H a o) b u) a v = upd (upd H b u) a v := by
  funext c
  by_cases h1 : c = a
  · subst h1
    rw [upd_same, upd_same]
  · rw [upd_ne h1, upd_ne h1]
    by_cases h2 : c = b
    · subst h2
      rw [upd_same, upd_same]
    · rw [upd_ne h2, upd_ne h2, upd_ne h1]
theorem ev_mk (h : ED F K te σ B d) : EV F (tMkV C (spInit C f) [] (tCons te tNil)) σ B (EvX K C f d) := fun B1 e0 H j Q q =>
  h B1 e0 H j _ fun v B2 H2 s2 j2 g => ⟨(by show 1 ≤ 1000; decide), fun a ha => ⟨a, v, rfl, upd_same, fun dx hdx hne => ⟨rfl, by
    have hd : H2 dx = none := by
      rw [upd_ne hne] at hdx
      exact hdx
    have ha2 : upd H2 dx (exd dx [(f, v)]) a = none := by
      rw [upd_ne (Ne.symm hne)]
      exact ha
    have s3 : Step F.M B2 H2 (upd B2 dx (exd dx [(f, v)])) (upd H2 dx (exd dx [(f, v)])) := Step.alloc j2.e hd
    have j3 := j2.alloc (o := exd dx [(f, v)]) hd
    have s4 : Step F.M _ _ (upd (upd B2 dx (exd dx [(f, v)])) a (exo a C (some dx))) (upd (upd H2 dx (exd dx [(f, v)])) a (exo a C (some dx))) := Step.alloc j3.e ha2
    have j4 := j3.alloc (o := exo a C (some dx)) ha2
    rw [upd3 hne]
    refine q (.ref a) _ _ ((s2.trans s3).trans s4) j4 ⟨a, dx, v, rfl, upd_same, ?_, Dd.up g (s3.bb.trans s4.bb)⟩
    rw [upd_ne hne]
    exact upd_same⟩⟩⟩
theorem ev_oxf (hx : XfC K C) (no : PySem.W.findIn K (.ref C) f = some none) (h : EV F te σ B (EvX K C f d)) : ED F K (tOxf K f te) σ B d := fun B1 e0 H j Q q =>
  h B1 e0 H j _ fun v B2 H2 s2 j2 ⟨a, dx, u, ev, h1, h2, h3⟩ => ⟨a, C, dx, _, u, ev, j2.e _ _ h1, j2.e _ _ h2, hx, no, (by simp [List.lookup]), q u B2 H2 s2 j2 h3⟩
theorem ev_isx {c : V} {cv : Value} {b : Bool} (hx : XfC K C) (hi : IsC K C) (hc : ClsV c cv) (hk : PySem.W.kitOne K (.ref C) cv = some b) (h : EV F te σ B (EvX K C f d)) : ED F K (tCB (rIsX K) (tCons te (tCons (tC c) tNil))) σ B (.bool b) := fun B1 e0 H j Q q =>
  h B1 e0 H j _ fun v B2 H2 s2 j2 ⟨a, dx, u, ev, h1, h2, h3⟩ => ⟨a, C, dx, _, c, cv, b, (by rw [ev]), j2.e _ _ h1, j2.e _ _ h2, hx, hi, hc, hk, q _ B2 H2 s2 j2 (.bl b)⟩
end
end Dx

/-! Instances whose __init__ may raise; errors raised; lists of errors; draws. -/
namespace Dx
open PySem PySem.Spec PyProof.Rows L2 Evl Ex

/-! ### C(..) where what is raised is wished for at the caller's slots -/
section
variable {X : Cx} {CX : CXT} {k : Nat} {C f : Addr} {fd : FuncData} {ps : List Str} {sp : Sp} {E : L2.St → XK} {x : Str} {p pos : Pos} {e : Expr} {es : List Expr} {t : TA}
def tMakeS (C : Addr) (sp : Sp) (E : L2.St → XK) (t : TA) : TE := fun σ H Q => t σ H fun vs H1 => ∀ x dx, H1 x = none → H1 dx = none → dx ≠ x → sp (.ref x :: vs) (upd (upd H1 dx (.own x)) x (.ins C dx [])) (fun v H2 => v = .non ∧ Q (.ref x) H2) (E σ)
theorem run_makeS {pins : List (Addr × Obj)} {σ : L2.St} {H : Hp} {s : Shared} {Q : VK} {us : List Value} {vs : List V} (M : Mk X.K C f) (F : FnOk X.prog X.w X.K X.mg X.base CX k f fd ps sp) (hr : Room (k + 1) X.A) (hb : Binds X.K fd ps [])
    (hx : PassesAt CX X σ (E σ)) (I : Inv X pins σ H s) (r : Vals vs us)
    (h : ∀ x dx, H x = none → H dx = none → dx ≠ x → sp (.ref x :: vs) (upd (upd H dx (.own x)) x (.ins C dx [])) (fun v H2 => v = .non ∧ Q (.ref x) H2) (E σ)) :
    wpAny (model X.prog X.w) X.A (call (.ref C) us) (EP X pins σ Q) X.xe s := by
  have hq := h (s.heap.objs.size + 1) s.heap.objs.size (I.hok.fresh (Nat.le_succ _)) (I.hok.fresh (Nat.le_refl _)) (Nat.ne_of_lt (Nat.lt_succ_self _))
  have I2 := Inv.made (C := C) I
  have r2 : Vals (V.ref (s.heap.objs.size + 1) :: vs) (Value.ref (s.heap.objs.size + 1) :: us) := .cons rfl r
  have hl : (Value.ref (s.heap.objs.size + 1) :: us ++ []).length = ps.length := by
    have e := r2.length
    rw [F.len _ _ _ _ hq] at e
    rw [List.append_nil]
    exact e.symm
  have b := hb _ (Value.ref (s.heap.objs.size + 1) :: us) I2.kIn hl
  rw [List.append_nil] at b
  refine wpAny_call (make_map (f := f) I.kIn M.makes M.init (beq_iff_eq.mp M.fn) (codeAny_mono (F.run _ X.stack _ _ ⟨Value.ref (s.heap.objs.size + 1) :: us, []⟩ (Value.ref (s.heap.objs.size + 1) :: us) _ _ (E σ) (hr.make C us [])
    (I2.env0.make C us []) b r2 hq) fun r s' hq' => ?_))
  cases r with
  | error e => exact hx pins _ _ e s' I2 hq'
  | ok fl =>
    cases fl with
    | ret u =>
      obtain ⟨v, H', I3, rv, ev, q3⟩ := I2.after hq'
      subst ev
      exact ⟨rv, ⟨V.ref (s.heap.objs.size + 1), H', I3, rfl, q3⟩⟩
    | next => exact False.elim hq'
    | brk => exact False.elim hq'
    | cont => exact False.elim hq'
theorem pe_makeS (M : Mk X.K C f) (F : FnOk X.prog X.w X.K X.mg X.base CX k f fd ps sp) (hr : Room (k + 1) X.A) (hg : Gl X x) (hm : X.mg x = some (.ref C)) (hb : Binds X.K fd ps []) (hx : ∀ σ, PassesAt CX X σ (E σ))
    (ha : PA X (e :: es) t) (hdb : (x == ("__debug__" : Str)) = false := by decide) (he : starEach (e :: es) X.env = (false, eval e X.env) :: starEach es X.env := by rfl) (hpl : (backTo pos (starEach es X.env)).any (·.1) = false := by rfl) :
    PE X (.Call (.Name x p) (e :: es) [] pos) (tMakeS C sp E t) := by
  refine ⟨fun pins s σ H Q I h => ?_⟩
  refine wpAny_Call_Name_kw (ld_glob I hg hm ?_ hdb)
  refine PySem.W.callWith_K (h₀ := X.base) I.ok.mod.kin M.kp (thn (ha.run pos pins s σ H _ I h) fun us s1 ⟨vs, H1, I1, r, q⟩ => ⟨I1.kIn, ?_⟩) he hpl
  exact run_makeS M F hr hb (hx σ) I1 r q
end

/-! ### raise X(e) -/
section
variable {X : Cx} {x f : Str} {C : Addr} {e : Expr} {ta : TA} {p pos : Pos}
theorem pmk_E (c : ExcAt X.prog X.w X.K X.mg X.base x f C) (hr : Room 2 X.A) (hg : Gl X x) (ha : PA X [e] ta) (hdb : (x == ("__debug__" : Str)) = false := by decide)
    (he : starEach [e] X.env = (false, eval e X.env) :: starEach [] X.env := by rfl) (hpl : (backTo pos (starEach [] X.env)).any (·.1) = false := by rfl) :
    PMk X (.Call (.Name x p) [e] [] pos) (tMkO C (spInit C f) [] ta) := by
  obtain ⟨fI, fd, h1, h2, h3, h4⟩ := c.ini
  exact pmk_oex c.oc h1 h2 h3 hr h4 .nil pass0 hg c.g ha hdb he hpl
end
/-- the reading of what is raised: behind a heap H1 that holds all of B; the error's own dict dd keeps v -/
theorem mk_raise {F : Fm} {P : PV} {σ : L2.St} {B H : Hp} {te : TE} {C : Addr} {f : Str} {E : XK} (k : Ok F B H) (h : EV F te σ B P)
    (q : ∀ v B1 H1 dd H', Step F.M B H B1 H1 → Ok F B1 H1 → P v B1 → H1 dd = none → Ex H1 H' → H' dd = some (.xd [(f, v)]) → E (.ref C) (some dd) H') : tMkO C (spInit C f) [] (tCons te tNil) σ H E :=
  h B (Ex.refl B) H k _ fun v B1 H1 s1 k1 p => ⟨(by show 1 ≤ 1000; decide), fun a ha => ⟨a, v, rfl, upd_same, fun dx hdx hne => ⟨rfl, dx, _, upd_same, (by rw [upd_ne hne]; exact upd_same), (by
    rw [upd_ne hne] at hdx
    exact hdx), by
    have hd : H1 dx = none := by
      rw [upd_ne hne] at hdx
      exact hdx
    refine q v B1 H1 dx _ s1 k1 p hd (fun b o hb => ?_) upd_same
    have b1 : b ≠ dx := ne_of_none hb hd
    have b2 : b ≠ a := ne_of_none hb ha
    rw [upd_ne b1, del_ne b2, upd_ne b2, upd_ne b1, upd_ne b2]
    exact hb⟩⟩⟩

/-! ### lists of errors -/
inductive AX (K : PySem.W.Frag) (d : PyData) (B : Hp) : List (Addr × Str) → List V → Prop
  | nil : AX K d B [] []
  | cons {c : Addr} {f : Str} {v : V} {cs : List (Addr × Str)} {vs : List V} : EvX K c f d v B → AX K d B cs vs → AX K d B ((c, f) :: cs) (v :: vs)
section
variable {F : Fm} {K : PySem.W.Frag} {d : PyData} {B B' : Hp} {σ : L2.St} {te : TE} {tas : TA} {cs cs' : List (Addr × Str)} {vs us : List V} {c : Addr} {f : Str}
theorem AX.up (e : Ex B B') : ∀ {cs : List (Addr × Str)} {vs : List V}, AX K d B cs vs → AX K d B' cs vs
  | _, _, .nil => .nil
  | _, _, .cons h t => .cons (upc_evx _ _ _ e h) (AX.up e t)
theorem AX.len : ∀ {cs : List (Addr × Str)} {vs : List V}, AX K d B cs vs → vs.length = cs.length
  | _, _, .nil => rfl
  | _, _, .cons _ t => by rw [List.length_cons, List.length_cons, AX.len t]
theorem AX.app : ∀ {cs cs' : List (Addr × Str)} {vs us : List V}, AX K d B cs vs → AX K d B cs' us → AX K d B (cs ++ cs') (vs ++ us)
  | _, _, _, _, .nil, h => h
  | _, _, _, _, .cons a t, h => .cons a (AX.app t h)
theorem AX.get : ∀ {cs : List (Addr × Str)} {vs : List V} {i : Nat} {v : V}, AX K d B cs vs → vs[i]? = some v → ∃ c f, cs[i]? = some (c, f) ∧ EvX K c f d v B
  | _, _, i, _, .nil, e => by simp at e
  | _, _, 0, _, .cons h _, e => by
    simp at e
    subst e
    exact ⟨_, _, rfl, h⟩
  | _, _, i + 1, v, .cons _ t, e => by
    obtain ⟨c, f, h1, h2⟩ := AX.get (i := i) (v := v) t (by simpa using e)
    exact ⟨c, f, by simpa using h1, h2⟩
theorem eax_nil : EVs F tNil σ B (fun vs B => AX K d B [] vs) := fun B1 e0 H j Q q => q [] B1 H (Step.refl j.e) j .nil
theorem eax_cons (h : EV F te σ B (EvX K c f d)) (hs : EVs F tas σ B (fun vs B => AX K d B cs vs)) : EVs F (tCons te tas) σ B (fun vs B => AX K d B ((c, f) :: cs) vs) := fun B1 e0 H j Q q =>
  h B1 e0 H j _ fun v B2 H2 s2 j2 p => hs B2 (e0.trans s2.bb) H2 j2 _ fun us B3 H3 s3 j3 ps => q (v :: us) B3 H3 (s2.trans s3) j3 (.cons (upc_evx _ _ _ s3.bb p) ps)
/-- a list of such errors -/
def LsX (K : PySem.W.Frag) (d : PyData) (cs : List (Addr × Str)) : PV := fun v B => ∃ a vs, v = .ref a ∧ B a = some (.lst vs) ∧ AX K d B cs vs
theorem upc_lsx : Upc (LsX K d cs) := fun v B B' e ⟨a, vs, h1, h2, h3⟩ => ⟨a, vs, h1, e _ _ h2, h3.up e⟩
theorem ev_lsx (h : EVs F tas σ B (fun vs B => AX K d B cs vs)) (hl : cs.length ≤ 16777216 := by exact Nat.le_of_ble_eq_true rfl) : EV F (tLst tas) σ B (LsX K d cs) :=
  h.newL (fun vs B1 _ p => by rw [AX.len p, sizeLine_eq]; exact hl) fun vs p B1 _ g hp => ⟨p, vs, rfl, upd_same, AX.up (Ex.new hp) g⟩
theorem rv_lsx (hl : cs.length + cs'.length ≤ 16777216) : RV2 F (rAddA K) B (LsX K d cs) (LsX K d cs') (LsX K d (cs ++ cs')) := fun B1 e0 H u v jj ⟨a, vs, hu, h1, g1⟩ ⟨b, us, hv, h2, g2⟩ Q q =>
  .inr (.inr (.inl ⟨a, b, vs, us, hu, hv, jj.e _ _ h1, jj.e _ _ h2, by rw [g1.len, g2.len, sizeLine_eq]; exact hl, fun p hp => q _ _ _ (Step.alloc jj.e hp) (jj.alloc hp) ⟨p, vs ++ us, rfl, upd_same, AX.up (Ex.new (fresh_back jj.e hp)) (g1.app g2)⟩⟩))
theorem rv_ixX {i : Int} (hi : 0 ≤ i ∧ i < (cs.length : Nat)) : RV2 F (rIx K) B (LsX K d cs) (DD K (.int i)) (fun v B => ∃ c f, cs[i.toNat]? = some (c, f) ∧ EvX K c f d v B) := fun B1 e0 H u v jj ⟨a, vs, hu, h1, g1⟩ hv Q q => by
  have hlt : i.toNat < vs.length := by rw [g1.len]; omega
  have hx : vs[i.toNat]? = some vs[i.toNat] := List.getElem?_eq_getElem hlt
  obtain ⟨w, hw⟩ : ∃ w, vs[i.toNat]? = some w := ⟨_, hx⟩
  obtain ⟨c, f, h2, h3⟩ := g1.get hw
  exact .inl ⟨a, vs, i, w, hu, dd_int hv, sq_of (jj.e _ _ h1), at_of (by omega) hw, q _ B1 H (Step.refl jj.e) jj ⟨c, f, h2, h3⟩⟩
theorem rc_lenX : RVc F (fun xs H Q => ∃ x n, xs = [x] ∧ LenV K x H n ∧ Q (.int (n : Nat)) H) B (fun vs B => ∃ v, vs = [v] ∧ LsX K d cs v B) (DD K (.int (cs.length : Nat))) := fun B1 e0 H us jj ⟨v, e, a, vs, hv, h1, g1⟩ Q q =>
  ⟨v, cs.length, e, by
    subst hv
    exact .inl ⟨vs, sq_of (jj.e _ _ h1), g1.len.symm⟩, q _ B1 H (Step.refl jj.e) jj (.int _)⟩
theorem evs_one {P : PV} (h : EV F te σ B P) : EVs F (tCons te tNil) σ B (fun vs B => ∃ v, vs = [v] ∧ P v B) := fun B1 e0 H j Q q =>
  h B1 e0 H j _ fun v B2 H2 s2 j2 p => q [v] B2 H2 s2 j2 ⟨v, rfl, p⟩
theorem sqv_lsx {v : V} (h : LsX K d cs v B) : SqV K (fun vs B => AX K d B cs vs) v B := by
  obtain ⟨a, vs, rfl, h1, g⟩ := h
  exact ⟨a, vs, rfl, .inl (sq_of h1), g⟩
end

/-! ### draws -/
def preT (ds : List PyData) : Prop := ∃ m : Int, ds = [.int m] ∧ 0 < m ∧ m < 1073741824
def posT (ds : List PyData) : PV := fun v _ => ∃ i m : Int, ds = [.int m] ∧ v = .int i ∧ 0 ≤ i ∧ i < m
abbrev spTake (K : PySem.W.Frag) : Sp := spX K preT posT
def itemsOf : PyData → List PyData
  | .list xs => xs
  | .tuple xs => xs
  | _ => []
def preP (ds : List PyData) : Prop := ∃ d xs, ds = [d] ∧ (d = .list xs ∨ d = .tuple xs) ∧ xs ≠ [] ∧ xs.length < 1073741824
def posP (K : PySem.W.Frag) (ds : List PyData) : PV := fun v B => ∃ d e, ds = [d] ∧ e ∈ itemsOf d ∧ Dd K B v e
abbrev spPick (K : PySem.W.Frag) : Sp := spX K preP (posP K)
section
variable {F : Fm} {K : PySem.W.Frag} {σ : L2.St} {B : Hp} {p : Addr} {i : Nat} {ta : TE} {E : XK}
theorem ev_take {m : Int} (hi : σ[i]? = some (some (.ref p))) (ha : ED (Fm.box p) K ta σ B (.int m)) (h0 : 0 < m) (h1 : m < 1073741824) : EV (Fm.box p) (tCall (spTake K) [] E (tCons (tVar i) (tCons ta tNil))) σ B (fun v _ => ∃ n : Int, v = .int n ∧ 0 ≤ n ∧ n < m) :=
  ev_X hi (eds_cons ha eds_nil) ⟨m, rfl, h0, h1⟩ fun v B1 _ ⟨n, m', e, ev, h2, h3⟩ => by
    cases e
    exact ⟨n, ev, h2, h3⟩
theorem ev_pick {d : PyData} {xs : List PyData} (hi : σ[i]? = some (some (.ref p))) (ha : ED (Fm.box p) K ta σ B d) (hd : d = .list xs ∨ d = .tuple xs) (h0 : xs ≠ []) (h1 : xs.length < 1073741824) :
    EV (Fm.box p) (tCall (spPick K) [] E (tCons (tVar i) (tCons ta tNil))) σ B (fun v B => ∃ e, e ∈ xs ∧ Dd K B v e) :=
  ev_X hi (eds_cons ha eds_nil) ⟨d, xs, rfl, hd, h0, h1⟩ fun v B1 _ ⟨d', e, ed, he, hv⟩ => by
    cases ed
    refine ⟨e, ?_, hv⟩
    rcases hd with rfl | rfl <;> exact he
/-- xs[i], i some place -/
theorem rv_pick {d : PyData} {xs : List PyData} (hd : d = .list xs ∨ d = .tuple xs) : RV2 F (rIx K) B (DD K d) (fun v _ => ∃ n : Int, v = .int n ∧ 0 ≤ n ∧ n < (xs.length : Nat)) (fun v B => ∃ e, e ∈ xs ∧ Dd K B v e) := fun B1 e0 H u v jj hu ⟨n, hv, h0, h1⟩ Q q => by
  have hlt : n.toNat < xs.length := by omega
  obtain ⟨w, hw⟩ : ∃ w, xs[n.toNat]? = some w := ⟨_, List.getElem?_eq_getElem hlt⟩
  have hm : w ∈ xs := List.mem_of_getElem? hw
  have ha : atI xs n = some w := by
    have e : n = ((n.toNat : Nat) : Int) := by omega
    have h := atI_nat hw
    rw [← e] at h
    exact h
  subst hv
  rcases hd with rfl | rfl
  · exact rd_ixL (F := F) ha B1 e0 H u (.int n) jj hu (.int n) Q fun w B2 H2 s k g => q w B2 H2 s k ⟨_, hm, g⟩
  · exact rd_ixT (F := F) ha B1 e0 H u (.int n) jj hu (.int n) Q fun w B2 H2 s k g => q w B2 H2 s k ⟨_, hm, g⟩
end
/-- _law_box(script, k): a new box -/
def spBox (K : PySem.W.Frag) : Sp := fun vs H Q _ => ∃ (a : Addr) (k : Int) (ns : List Int) (B : Hp), vs = [.ref a, .int k] ∧ Ex B H ∧ SqL K B a (ns.map V.int) ∧ ns.length ≤ 63 ∧ 0 ≤ k ∧ k ≤ 1000 ∧
  ∀ p B' H', Step (fun _ => False) B H B' H' → Ok (Fm.box p) B' H' → Q (.ref p) H'
section
variable {F : Fm} {K : PySem.W.Frag} {σ : L2.St} {B0 H0 B H : Hp} {D : Ends} {tz : TS} {i j l : Nat} {E : XK} {ta : TA} {d : PyData} {te : TE}
theorem qv_box {a : Addr} {ns : List Int} {k : Int} (e : Ex B H) (hi : σ[i]? = some (some (.ref a))) (hS : SqL K B a (ns.map V.int)) (hl : ns.length ≤ 63) (h0 : 0 ≤ k) (h1 : k ≤ 1000)
    (q : ∀ p B1 H1, Step (fun _ => False) B H B1 H1 → Ok (Fm.box p) B1 H1 → tz D (σ.set j (some (.ref p))) H1) : tSeq (tAsg (tCall (spBox K) [] E (tCons (tVar i) (tCons (tC (.int k)) tNil))) (gName j)) tz D σ H :=
  ⟨.ref a, hi, a, k, ns, B, rfl, e, hS, hl, h0, h1, q⟩
theorem qv_par3X {x y z : Addr × Str} (a : At F B0 H0 B H) (h : EVs F ta σ B (fun vs B => AX K d B [x, y, z] vs))
    (k : ∀ u v w B1 H1, Ex B B1 → At F B0 H0 B1 H1 → EvX K x.1 x.2 d u B1 → EvX K y.1 y.2 d v B1 → EvX K z.1 z.2 d w B1 → tz D (((σ.set i (some u)).set j (some v)).set l (some w)) H1) : tSeq (tPar3 i j l ta) tz D σ H :=
  h B (Ex.refl B) H a.j _ fun vs B1 H1 s1 j1 g => by
    cases g with
    | cons g1 t =>
      cases t with
      | cons g2 t =>
        cases t with
        | cons g3 t =>
          cases t
          exact ⟨_, _, _, rfl, k _ _ _ B1 H1 s1.bb (a.next s1 j1) g1 g2 g3⟩
def Sh (K : PySem.W.Frag) : PV := fun v B => ∃ d, Dd K B v d ∧ SeqAt.shaped d = true
theorem sh_of (h : ED F K te σ B d) (hs : SeqAt.shaped d = true) : EV F te σ B (Sh K) := h.imp fun v B1 _ hv => ⟨d, hv, hs⟩
end
end Dx

/-! The rules with the written part K named (also within comprehensions). -/
namespace Dx
open PySem PySem.Spec PyProof.Rows L2 Evl Ex
section
variable {X : Cx} (K : PySem.W.Frag) {e : Expr} {te : TE} {f : Str} {pos : Pos} {tg l : Expr} {tl : TE}
def rLnK (K : PySem.W.Frag) : List V → Hp → VK → Prop := fun xs H Q => ∃ x n, xs = [x] ∧ LenV K x H n ∧ Q (.int (n : Nat)) H
theorem call_lenK (hK : X.K = K := by rfl) : CallR X (.builtin "len") (rLnK K) := by subst hK; exact call_len
theorem ix_seqK (hK : X.K = K := by rfl) : IxR X (rIx K) := by subst hK; exact ix_seq
theorem op_addK (hK : X.K = K := by rfl) : OpR X (binaryOp .Add) (rAddA K) := by subst hK; exact op_addA
theorem op_eqDK (hu : X.A.units + 64 < cLine) (hK : X.K = K := by rfl) : OpR X (compareOp .Eq) (rEqD K) := by subst hK; exact op_eqD hu
theorem op_neDK (hu : X.A.units + 64 < cLine) (hK : X.K = K := by rfl) : OpR X (compareOp .NotEq) (rNeD K) := by subst hK; exact op_neD hu
theorem op_inK (hK : X.K = K := by rfl) : OpR X (compareOp .In) (rIn K false) := by subst hK; exact op_in_seq
theorem op_ninK (hK : X.K = K := by rfl) : OpR X (compareOp .NotIn) (rIn K true) := by subst hK; exact op_notIn_seq
theorem call_isiK1 (hK : X.K = K := by rfl) : CallR X (.builtin "isinstance") (rIsi K) := by subst hK; exact call_isi
theorem call_isXK (hK : X.K = K := by rfl) : CallR X (.builtin "isinstance") (rIsX K) := by subst hK; exact call_isX
theorem pe_oxfK (he : PE X e te) (hK : X.K = K := by rfl) (hb : attributeBase e f X.env (eval e X.env) = eval e X.env := by rfl) : PE X (.Attribute e f pos) (tOxf K f te) := by subst hK; exact pe_oxf he hb
theorem pe_fldK (he : PE X e te) (hK : X.K = K := by rfl) (hb : attributeBase e f X.env (eval e X.env) = eval e X.env := by rfl) : PE X (.Attribute e f pos) (tFld K te f) := by subst hK; exact pe_fld he hb
theorem pi_seqK (hl : PE X l tl) (hK : X.K = K := by rfl) : PI X tg l (iSeq K tl) := by subst hK; exact pi_seq hl
theorem cr_allK (hc : X.calm = true := by rfl) (hK : X.K = K := by rfl) : CallR X (.builtin "all") (rAll K) := by subst hK; exact cr_all hc
theorem cr_anyK (hc : X.calm = true := by rfl) (hK : X.K = K := by rfl) : CallR X (.builtin "any") (rAny K) := by subst hK; exact cr_any hc
theorem pt_tru (he : PE X e te) (ht : ∀ whole, isTrue e X.env whole = (do let v ← whole; standAt e.pos; holding [v] (truthy v)) := by intro _; rfl) (hK : X.K = K := by rfl) :
    PT X e (fun σ H Q => te σ H fun x H' => ∃ k, TruV K x H' k ∧ Q k H') := by subst hK; exact pt_truth he ht
end
end Dx

/-! What the top has written: an error's class, a def, a class. -/
namespace Dx
open PySem PySem.Spec PyProof.Rows L2 Evl Ex
structure XFact (K : PySem.W.Frag) (x f qual : Str) (st : Stmt) (C : Addr) : Prop where
  a : PySem.W.nsIn K mainGlobals x = some (some (.ref C))
  oc : OexC K C
  xf : XfC K C
  isc : IsC K C
  no : PySem.W.findIn K (.ref C) f = some none
  fn : ∃ f1 fd, PySem.W.findIn K (.ref C) "__init__" = some (some (.ref f1)) ∧ PySem.W.typeIn K (.ref f1) = some (.type "function") ∧ Fun K "__init__" qual st f1 fd
theorem xfact_mk {K : PySem.W.Frag} {x f qual : Str} {st : Stmt} {C f1 : Addr} {nm q : Str} {N : Addr} {bs bm : List Value} {sn : List Str} {sub : List Value} {ab : Bool} {col : Option Bool} {dd : Option Addr} {m0 m1 m2 m3 m5 : Option Value}
    {od1 an1 : Option Addr} {sl1 : Array (Option Value)} {oc1 dc1 kV1 pm1 cd1 ct1 : Value}
    (aC : PySem.W.nsIn K mainGlobals x = some (some (.ref C)))
    (xL : K.lookup C = some (excClassObj nm q C N bs bm true sn sub ab col dd m0 m1 m2 m3 m5 "ValueError.__new__")) (hbm : PySem.HandSPX.refsVE bm = true)
    (sa : PySem.W.findIn K (.ref C) "__setattr__" = some (some (.builtin "object.__setattr__"))) (ga : PySem.W.findIn K (.ref C) "__getattribute__" = some (some (.builtin "BaseException.__getattribute__"))) (gg : PySem.W.findIn K (.ref C) "__getattr__" = some none) (nb : PySem.W.findIn K (.ref C) f = some none)
    (a1 : PySem.W.findIn K (.ref C) "__init__" = some (some (.ref f1))) (t1 : PySem.W.typeIn K (.ref f1) = some (.type "function"))
    (l1 : K.lookup f1 = some ⟨oc1, od1, .func (PySem.W.fnOf "__init__" qual (defArgs st) (defBody st) (defScope st) .none kV1 dc1 pm1 an1 cd1 ct1), sl1⟩) (c1 : PySem.W.codeIn K cd1 qual = true) (k1 : PySem.W.keepIn K (.ref f1) = true)
    (kC : PySem.W.keepIn K (.ref C) = true) (eC : PySem.W.subIn K (.ref C) (.type "BaseException") = some true) (tC : PySem.W.typeIn K (.ref C) = some (.type "type")) (hC : PySem.W.hasDictIn K C = true)
    (iC : PySem.W.isClsIn K C = true) (ca : PySem.W.findIn K (.ref C) "__class__" = some (some (.builtin "object.__class__"))) (sg : PySem.W.specialIn K (.builtin "object.__class__") "__get__" = some (some (.builtin "getset_descriptor.__get__")))
    (tk : PySem.W.takesIn K (.builtin "object.__class__") = some true) (mo : PySem.W.mroIn K C (.type "object") = some true) : XFact K x f qual st C where
  a := aC
  oc := ⟨⟨nm, q, N, bs, bm, sn, sub, ab, col, dd, m0, m1, m2, m3, m5, xL, hbm⟩, sa, eC, tC, kC⟩
  xf := ⟨ga, gg, eC, hC⟩
  isc := ⟨iC, ca, sg, tk, mo⟩
  no := nb
  fn := ⟨f1, _, a1, t1, fun_mk l1 c1 k1⟩
theorem XFact.at {P : Program} {w : World} {K : PySem.W.Frag} {mg : Str → Option Value} {base h : Heap} {x f qual : Str} {st : Stmt} {C : Addr} (e : XFact K x f qual st C) (X : K.In h) (G : h.Ns mainGlobals mg)
    (ok : ∀ f1 fd, Fun K "__init__" qual st f1 fd → FnOk P w K mg base CX0 1 f1 fd ["self", f] (spInit C f)) (bnd : ∀ f1 fd, Fun K "__init__" qual st f1 fd → L2.Binds K fd ["self", f] []) : ExcAt P w K mg base x f C := by
  obtain ⟨f1, fd, h1, h2, F⟩ := e.fn
  exact ⟨e.oc, e.xf, e.isc, e.no, PySem.W.mg_of X G e.a, f1, fd, h1, h2, ok f1 fd F, bnd f1 fd F⟩
/-- a def of the module -/
structure DFact (K : PySem.W.Frag) (x : Str) (st : Stmt) (f : Addr) : Prop where
  a : PySem.W.nsIn K mainGlobals x = some (some (.ref f))
  fn : ∃ fd, Fun K x x st f fd
theorem dfact_mk {K : PySem.W.Frag} {x : Str} {st : Stmt} {f : Addr} {od1 an1 : Option Addr} {sl1 : Array (Option Value)} {oc1 dc1 kV1 pm1 cd1 ct1 : Value} (a : PySem.W.nsIn K mainGlobals x = some (some (.ref f)))
    (l1 : K.lookup f = some ⟨oc1, od1, .func (PySem.W.fnOf x x (defArgs st) (defBody st) (defScope st) .none kV1 dc1 pm1 an1 cd1 ct1), sl1⟩) (c1 : PySem.W.codeIn K cd1 x = true) (k1 : PySem.W.keepIn K (.ref f) = true) : DFact K x st f := ⟨a, _, fun_mk l1 c1 k1⟩
theorem DFact.callee {P : Program} {w : World} {K : PySem.W.Frag} {mg : Str → Option Value} {base h : Heap} {x : Str} {st : Stmt} {f : Addr} {k : Nat} {ps : List Str} {sp : Sp} (d : DFact K x st f) (X : K.In h) (G : h.Ns mainGlobals mg)
    (ok : ∀ fd, Fun K x x st f fd → FnOk P w K mg base CX0 k f fd ps sp) (b : ∀ fd, Fun K x x st f fd → L2.Binds K fd ps []) : Callee P w K mg base x k ps sp := by
  obtain ⟨fd, F⟩ := d.fn
  exact ⟨f, fd, ok fd F, PySem.W.mg_of X G d.a, F.kp, b fd F⟩
/-- a class whose instances have a dict, and its __init__ -/
structure CFact (K : PySem.W.Frag) (x qual : Str) (st : Stmt) (C : Addr) : Prop where
  a : PySem.W.nsIn K mainGlobals x = some (some (.ref C))
  made : ∃ f1 fd, Mk K C f1 ∧ Fun K "__init__" qual st f1 fd
theorem cfact_mk {K : PySem.W.Frag} {x qual : Str} {st : Stmt} {C f1 : Addr} {od1 an1 : Option Addr} {sl1 : Array (Option Value)} {oc1 dc1 kV1 pm1 cd1 ct1 : Value} (a : PySem.W.nsIn K mainGlobals x = some (some (.ref C)))
    (mk : PySem.W.makesIn K C = true) (a1 : PySem.W.findIn K (.ref C) "__init__" = some (some (.ref f1))) (i1 : PySem.W.isFn K (.ref f1) = true) (kc : PySem.W.keepIn K (.ref C) = true)
    (l1 : K.lookup f1 = some ⟨oc1, od1, .func (PySem.W.fnOf "__init__" qual (defArgs st) (defBody st) (defScope st) .none kV1 dc1 pm1 an1 cd1 ct1), sl1⟩) (c1 : PySem.W.codeIn K cd1 qual = true) (k1 : PySem.W.keepIn K (.ref f1) = true) : CFact K x qual st C :=
  ⟨a, f1, _, ⟨mk, a1, i1, kc⟩, fun_mk l1 c1 k1⟩
/-- G, the class above the errors -/
structure GFact (K : PySem.W.Frag) (x : Str) (C : Addr) : Prop where
  a : PySem.W.nsIn K mainGlobals x = some (some (.ref C))
  rd : ClX.CRead K C (.type "type")
  gi : PySem.W.findCls K (.ref C) (.type "type") "__init__" = some (.val (.builtin "ValueError.__init__"))
  eC : PySem.W.subIn K (.ref C) (.type "BaseException") = some true
  hC : PySem.W.hasDictIn K C = true
  tC : PySem.W.typeIn K (.ref C) = some (.type "type")
theorem gfact_mk {K : PySem.W.Frag} {x : Str} {C : Addr} (a : PySem.W.nsIn K mainGlobals x = some (some (.ref C))) (r1 : PySem.W.readsIn K C (.type "type") = true) (r2 : PySem.W.specialIn K (.ref C) "__getattribute__" = some (some (.builtin "type.__getattribute__")))
    (gi : PySem.W.findCls K (.ref C) (.type "type") "__init__" = some (.val (.builtin "ValueError.__init__"))) (eC : PySem.W.subIn K (.ref C) (.type "BaseException") = some true) (hC : PySem.W.hasDictIn K C = true) (tC : PySem.W.typeIn K (.ref C) = some (.type "type")) : GFact K x C := ⟨a, ⟨r1, r2⟩, gi, eC, hC, tC⟩
end Dx

/-! Which kinds come back to themselves: plain mathematics. -/
namespace Gm
/-- x is come to from k by one or more steps -/
inductive Rch (E : List (Int × Int)) (k : Int) : Int → Prop
  | one {x : Int} : (k, x) ∈ E → Rch E k x
  | more {y x : Int} : Rch E k y → (y, x) ∈ E → Rch E k x
theorem Rch.mono {E E' : List (Int × Int)} (h : ∀ p, p ∈ E → p ∈ E') {k x : Int} (r : Rch E k x) : Rch E' k x := by
  induction r with
  | one e => exact .one (h _ e)
  | more _ e ih => exact .more ih (h _ e)
def Closed (E : List (Int × Int)) (k : Int) (S : List Int) : Prop := ∀ a b, (a, b) ∈ E → (a = k ∨ a ∈ S) → b ∈ S
theorem closed_rch {E : List (Int × Int)} {k : Int} {S : List Int} (h : Closed E k S) {x : Int} (r : Rch E k x) : x ∈ S := by
  induction r with
  | one e => exact h _ _ e (.inl rfl)
  | more _ e ih => exact h _ _ e (.inr ih)
/-- at most n different ones -/
theorem len_filter (a : Int) : ∀ L : List Int, L.Nodup → L.length ≤ (L.filter fun x => x != a).length + 1
  | [], _ => Nat.zero_le _
  | b :: L, h => by
    have hb := (List.nodup_cons.mp h).1
    have hL := (List.nodup_cons.mp h).2
    by_cases e : b = a
    · subst e
      have : L.filter (fun x => x != b) = L := List.filter_eq_self.mpr fun x hx => by
        have : x ≠ b := fun z => hb (z ▸ hx)
        simpa using this
      rw [List.filter_cons]
      simp [this]
    · have ih := len_filter a L hL
      have e' : (b != a) = true := by simpa using e
      rw [List.filter_cons, if_pos e', List.length_cons, List.length_cons]
      omega
theorem pig : ∀ (n : Nat) (L : List Int), L.Nodup → (∀ x ∈ L, 0 ≤ x ∧ x < (n : Int)) → L.length ≤ n
  | 0, L, _, h => by
    cases L with
    | nil => exact Nat.le_refl _
    | cons x L =>
      have := h x List.mem_cons_self
      omega
  | n + 1, L, hn, h => by
    have h1 := len_filter (n : Int) L hn
    have h2 := pig n (L.filter fun x => x != (n : Int)) (hn.filter _) fun x hx => by
      obtain ⟨hm, hx⟩ := List.mem_filter.mp hx
      have h3 := h x hm
      have h4 : x ≠ (n : Int) := by simpa using hx
      omega
    omega
/-- the law's turn -/
def turn (E : List (Int × Int)) (k : Int) (S : List Int) : List Int := S ++ (E.filter fun p => (p.1 == k || S.contains p.1) && !S.contains p.2).map (·.2)
def turns (E : List (Int × Int)) (k : Int) : Nat → List Int
  | 0 => []
  | t + 1 => turn E k (turns E k t)
theorem mem_turn {E : List (Int × Int)} {k : Int} {S : List Int} {x : Int} : x ∈ turn E k S ↔ x ∈ S ∨ ∃ a, (a, x) ∈ E ∧ (a = k ∨ a ∈ S) := by
  unfold turn
  rw [List.mem_append, List.mem_map]
  constructor
  · rintro (h | ⟨⟨a, b⟩, hm, rfl⟩)
    · exact .inl h
    · obtain ⟨hE, hc⟩ := List.mem_filter.mp hm
      simp only [Bool.and_eq_true, Bool.or_eq_true, beq_iff_eq, List.contains_iff_mem] at hc
      exact .inr ⟨a, hE, hc.1⟩
  · rintro (h | ⟨a, hE, hc⟩)
    · exact .inl h
    · by_cases hx : x ∈ S
      · exact .inl hx
      · refine .inr ⟨(a, x), List.mem_filter.mpr ⟨hE, ?_⟩, rfl⟩
        simp only [Bool.and_eq_true, Bool.or_eq_true, beq_iff_eq, List.contains_iff_mem, Bool.not_eq_true', Bool.eq_false_iff, ne_eq]
        exact ⟨hc, hx⟩
theorem turns_sound {E : List (Int × Int)} {k : Int} : ∀ (t : Nat) (x : Int), x ∈ turns E k t → Rch E k x
  | 0, x, h => by cases h
  | t + 1, x, h => by
    rcases mem_turn.mp h with h | ⟨a, hE, rfl | ha⟩
    · exact turns_sound t x h
    · exact .one hE
    · exact .more (turns_sound t a ha) hE
theorem turns_many {E : List (Int × Int)} {k : Int} : ∀ t : Nat, (∃ s, s ≤ t ∧ Closed E k (turns E k s)) ∨ ∃ L : List Int, L.Nodup ∧ L.length = t ∧ ∀ x ∈ L, x ∈ turns E k t
  | 0 => .inr ⟨[], List.nodup_nil, rfl, fun _ h => nomatch h⟩
  | t + 1 => by
    rcases turns_many (E := E) (k := k) t with ⟨s, hs, hc⟩ | ⟨L, h1, h2, h3⟩
    · exact .inl ⟨s, by omega, hc⟩
    · by_cases hc : Closed E k (turns E k t)
      · exact .inl ⟨t, by omega, hc⟩
      · have : ∃ a b, (a, b) ∈ E ∧ (a = k ∨ a ∈ turns E k t) ∧ b ∉ turns E k t := by
          apply Classical.byContradiction
          intro hno
          refine hc fun a b hE ha => ?_
          apply Classical.byContradiction
          intro hb
          exact hno ⟨a, b, hE, ha, hb⟩
        obtain ⟨a, b, hE, ha, hb⟩ := this
        refine .inr ⟨b :: L, List.nodup_cons.mpr ⟨fun hm => hb (h3 b hm), h1⟩, by rw [List.length_cons, h2], fun x hx => ?_⟩
        rcases List.mem_cons.mp hx with rfl | hx
        · exact mem_turn.mpr (.inr ⟨a, hE, ha⟩)
        · exact mem_turn.mpr (.inl (h3 x hx))
theorem closed_turn {E : List (Int × Int)} {k : Int} {S : List Int} (h : Closed E k S) : Closed E k (turn E k S) := fun a b hE ha => by
  refine mem_turn.mpr ?_
  rcases ha with ha | ha
  · exact .inl (h a b hE (.inl ha))
  · rcases mem_turn.mp ha with h1 | ⟨c, hc, h1⟩
    · exact .inl (h a b hE (.inr h1))
    · exact .inl (h a b hE (.inr (h c a hc h1)))
theorem closed_later {E : List (Int × Int)} {k : Int} {s : Nat} (h : Closed E k (turns E k s)) : ∀ d : Nat, Closed E k (turns E k (s + d))
  | 0 => h
  | d + 1 => closed_turn (closed_later h d)
/-- behind n + 1 turns, the kinds below n, just what is come to is found -/
theorem turns_all {E : List (Int × Int)} {k : Int} {n : Nat} (hE : ∀ a b, (a, b) ∈ E → 0 ≤ b ∧ b < (n : Int)) (x : Int) : x ∈ turns E k (n + 1) ↔ Rch E k x := by
  refine ⟨turns_sound _ _, fun r => ?_⟩
  rcases turns_many (E := E) (k := k) (n + 1) with ⟨s, hs, hc⟩ | ⟨L, h1, h2, h3⟩
  · have := closed_later hc (n + 1 - s)
    rw [show s + (n + 1 - s) = n + 1 by omega] at this
    exact closed_rch this r
  · have := pig n L h1 fun y hy => by
      have hr := turns_sound _ _ (h3 y hy)
      cases hr with
      | one e => exact hE _ _ e
      | more _ e => exact hE _ _ e
    omega
theorem turn_len (E : List (Int × Int)) (k : Int) (S : List Int) : (turn E k S).length ≤ S.length + E.length := by
  unfold turn
  rw [List.length_append, List.length_map]
  have := List.length_filter_le (fun p : Int × Int => (p.1 == k || S.contains p.1) && !S.contains p.2) E
  omega
theorem turns_len (E : List (Int × Int)) (k : Int) : ∀ t, (turns E k t).length ≤ t * E.length
  | 0 => Nat.zero_le _
  | t + 1 => by
    have h1 := turn_len E k (turns E k t)
    have h2 := turns_len E k t
    show (turn E k (turns E k t)).length ≤ _
    rw [Nat.add_mul, Nat.one_mul]
    omega
/-- the first kind that comes back to itself, if there is one -/
inductive BK (E : List (Int × Int)) (n : Int) : Option Int → Prop
  | some (k : Int) : 0 ≤ k → k < n → Rch E k k → (∀ j, 0 ≤ j → j < k → ¬ Rch E j j) → BK E n (some k)
  | none : (∀ j, 0 ≤ j → j < n → ¬ Rch E j j) → BK E n none
theorem BK.uniq {E : List (Int × Int)} {n : Int} {a b : Option Int} (h : BK E n a) (g : BK E n b) : a = b := by
  cases h with
  | some k h0 h1 h2 h3 =>
    cases g with
    | some j g0 g1 g2 g3 =>
      rcases Int.lt_trichotomy k j with h | h | h
      · exact absurd h2 (g3 k h0 h)
      · rw [h]
      · exact absurd g2 (h3 j g0 h)
    | none g => exact absurd h2 (g k h0 h1)
  | none h =>
    cases g with
    | some j g0 g1 g2 g3 => exact absurd g2 (h j g0 g1)
    | none g => rfl
theorem BK.ext {E E' : List (Int × Int)} {n : Int} {a : Option Int} (e : ∀ p, p ∈ E ↔ p ∈ E') (h : BK E n a) : BK E' n a := by
  have r : ∀ j x, Rch E j x ↔ Rch E' j x := fun j x => ⟨Rch.mono fun p => (e p).mp, Rch.mono fun p => (e p).mpr⟩
  cases h with
  | some k h0 h1 h2 h3 => exact .some k h0 h1 ((r k k).mp h2) fun j a b c => h3 j a b ((r j j).mpr c)
  | none h => exact .none fun j a b c => h j a b ((r j j).mpr c)
end Gm

/-! Shared by the laws: what is an integer; several except clauses with a name; an own ==. -/
namespace Dx
open PySem PySem.Spec PyProof.Rows L2 Evl Ex
structure TB (mg : Str → Option Value) : Prop where
  m_len : mg "len" = none
  m_abs : mg "abs" = none
  m_int : mg "int" = none
  m_str : mg "str" = none
  m_bool : mg "bool" = none
  m_tuple : mg "tuple" = none
  m_list : mg "list" = none
  m_all : mg "all" = none
  m_isinstance : mg "isinstance" = none
  m_range : mg "range" = none
/-! ### what is an integer -/
def isI : PyData → Bool
  | .int _ => true
  | _ => false
def fInt : List PyData → PyData
  | [d] => .bool (isI d)
  | _ => .none
def inB (d : PyData) (lo hi : Int) : Bool := match d with
  | .int i => decide (lo ≤ i) && decide (i ≤ hi)
  | _ => false
def fBetween : List PyData → PyData
  | [d, .int lo, .int hi] => .bool (inB d lo hi)
  | _ => .none
def pre1 (ds : List PyData) : Prop := ∃ d, ds = [d]
def preB (ds : List PyData) : Prop := ∃ d lo hi, ds = [d, .int lo, .int hi]
abbrev spInt (K : PySem.W.Frag) : Sp := spF K pre1 fInt
abbrev spBetween (K : PySem.W.Frag) : Sp := spF K preB fBetween
theorem arg1 {K : PySem.W.Frag} {B : Hp} {vs : List V} {d : PyData} (h : DdAll K B vs [d]) : ∃ v, vs = [v] ∧ Dd K B v d := by
  cases h with
  | cons h1 t =>
    cases t
    exact ⟨_, rfl, h1⟩
theorem arg2 {K : PySem.W.Frag} {B : Hp} {vs : List V} {d e : PyData} (h : DdAll K B vs [d, e]) : ∃ v u, vs = [v, u] ∧ Dd K B v d ∧ Dd K B u e := by
  cases h with
  | cons h1 t =>
    obtain ⟨u, rfl, h2⟩ := arg1 t
    exact ⟨_, u, rfl, h1, h2⟩
theorem arg3 {K : PySem.W.Frag} {B : Hp} {vs : List V} {d e c : PyData} (h : DdAll K B vs [d, e, c]) : ∃ v u y, vs = [v, u, y] ∧ Dd K B v d ∧ Dd K B u e ∧ Dd K B y c := by
  cases h with
  | cons h1 t =>
    obtain ⟨u, y, rfl, h2, h3⟩ := arg2 t
    exact ⟨_, u, y, rfl, h1, h2, h3⟩

/-! ### try: .. except X as n: .. except Y as n: .. -/
abbrev Clause := Value × (Addr → Value → Option Addr → TS)
/-- the ends of a suite behind which the name is gone -/
def goneE (i : Nat) (D : Ends) : Ends := { nx := fun σ' H' => D.nx (σ'.set i none) H', rt := D.rt, bk := fun σ' H' => D.bk (σ'.set i none) H', ct := fun σ' H' => D.ct (σ'.set i none) H' }
def wNames (K : PySem.W.Frag) (i : Nat) (Wout : WX) (D : Ends) : List Clause → WX
  | [] => Wout
  | (c, ts) :: r => fun cls d σ H => ∃ b, PySem.W.exmOne K cls c = some b ∧ (b = true → ∀ a, H a = none → ts a cls d (goneE i D) (σ.set i (some (.ref a))) H) ∧ (b = false → wNames K i Wout D r cls d σ H)
inductive ClsOk (X : Cx) (n : Str) : List ExceptHandler → List Clause → Prop
  | nil : ClsOk X n [] []
  | cons {x : Str} {c : Value} {ts : Addr → Value → Option Addr → TS} {b₀ : Stmt} {suite : List Stmt} {np pos' : Pos} {hds : List ExceptHandler} {l : List Clause} (hc : Names X x c)
      (hsu : ∀ (a : Addr) (oe : Obj) (cls : Value) (d : Option Addr) (pn : List (Addr × Obj)), Zc cls d oe → (∃ vs, oe.data = .fields vs) → PSs (X.suite a ((a, oe) :: pn)) (b₀ :: suite) (ts a cls d)) (r : ClsOk X n hds l) :
      ClsOk X n (.ExceptHandler (some (.Name x np)) (some n) (b₀ :: suite) pos' :: hds) ((c, ts) :: l)
section
variable {X : Cx} {n : Str} {i : Nat} {body : List Stmt} {h₀ : ExceptHandler} {hds : List ExceptHandler} {l : List Clause} {pos : Pos} {tb : WX → TS} {Wout : WX}
theorem ps_try_names (hs : X.stack = X.env :: X.outer) (hf : X.env.frame = some X.env.locals) (hN : X.N.Nodup) (hi : X.N[i]? = some n) (hln : X.env.kindOf n = some .local) (tk : Takes X Wout)
    (hb : ∀ (W : WX) (pn : List (Addr × Obj)) (xe : Value → Shared → Prop), Takes (X.tr pn xe) W → PassesOwn (model X.prog X.w) X.A X.env xe → PSs (X.tr pn xe) body (tb W))
    (hh : ClsOk X n (h₀ :: hds) l) : PS X (.Try body (h₀ :: hds) [] [] pos) (fun D σ H => tb (wNames X.K i Wout D l) D σ H) := by
  refine ⟨fun pins s σ H D I h => ?_⟩
  have ok := I.ok
  have hfr : X.A.frames = some (X.env :: X.outer) := by rw [ok.frames, hs]
  have hloc : Loc X.env.scope n := .inl hln
  refine wpAny_Try_except ?_
  refine wpAny_mono ((hb (wNames X.K i Wout D l) (X.pn ++ pins) (fun e s₁ => wpAny (model X.prog X.w) X.A (noteFrame e X.env) (fun _ s₂ => wpAny (model X.prog X.w) X.A (setFlight e none) (fun _ s₃ =>
    wpAny (model X.prog X.w) X.A (handleBy e X.env (h₀ :: hds)) (SP X pins D) X.xe s₃) X.xe s₂) X.xe s₁) (fun u s' xx => ?_) PassesOwn.looking).run [] s σ H D (I.toTry _) h) (fun f s1 hsp => ?_) (fun e s1 he => he)
  · obtain ⟨a, B, sI, pins', σ', H', cls, d, rfl, J', nb, up, sky, na, os, ag, w⟩ := xx
    have J : Inv X pins σ' H' sI := J'.ofTry ok
    have sky' : Sky B (X.env :: X.outer) a (Zc cls d) X.env.locals s'.heap := by rw [← hs]; exact sky
    show wpAny (model X.prog X.w) X.A (noteFrame (.ref a) X.env) _ _ _
    refine Sky.land Zc.steady hfr hf sky' fun h3 fl3 up3 => ?_
    have J3 : Inv X pins σ' H' { s' with heap := h3 } := J.landed nb fl3.1 (up.trans up3) os ag
    obtain ⟨oe3, vs3, he3, hz3, hd3⟩ := fl3.there
    have nfr : a ∉ frs (X.env :: X.outer) := fun hm => by
      obtain ⟨_, o', e', hnf⟩ := fl3.2.2.1.mem hm
      have z : some oe3 = some o' := he3.symm.trans e'
      cases z
      exact hnf _ hd3
    have nL : a ≠ X.env.locals := fun z => nfr (List.mem_filterMap.mpr ⟨X.env, List.mem_cons_self, by rw [hf, z]⟩)
    have nF : a ∉ X.fs := fun hm => by
      obtain ⟨e, he, q⟩ := List.mem_filterMap.mp hm
      exact nfr (List.mem_filterMap.mpr ⟨e, List.mem_cons_of_mem _ he, q⟩)
    have S3 := J3.suite he3 hd3 na nL nF
    have go : ∀ {hds' : List ExceptHandler} {l' : List Clause}, ClsOk X n hds' l' → wNames X.K i Wout D l' cls d σ' H' →
        wpAny (model X.prog X.w) X.A (handleBy (.ref a) X.env hds') (SP X pins D) X.xe { s' with heap := h3 } := by
      intro hds' l' hk
      induction hk with
      | nil =>
        intro w
        refine wpAny_handleBy_nil ?_
        obtain ⟨k1, k2, k3, oe, vs, T, oT, ts', he, hz, hd, h1, hr⟩ := id fl3
        unfold PySem.passOn
        refine wpAny_bind (wpAny_field he hd h1 ?_)
        rw [if_neg (show ¬ ((Value.ref T == Value.none) = true) from by simp)]
        have fin : wpAny (model X.prog X.w) X.A (setFlight (.ref a) X.env.frame) (fun _ s4 => wpAny (model X.prog X.w) X.A (throw (.ref a) : Sem Flow) (SP X pins D) X.xe s4) X.xe { s' with heap := h3 } := by
          rw [hf]
          refine HandSPX.setFlight_upZ fl3 fun h4 hh4 up4 => wpAny_throw (tk _ _ ?_)
          exact ⟨a, B, sI, pins, σ', H', cls, d, rfl, J, nb, (up.trans up3).trans up4, .inr (.inr (by rw [hs]; exact hh4)), na, os, ag, w⟩
        first
          | exact wpAny_bind (wpAny_pure (wpAny_bind fin))
          | exact wpAny_bind fin
      | @cons x c ts b₀ suite np pos' hds2 l2 hc hsu r ih =>
        intro w
        obtain ⟨b, hb1, hyes, hno⟩ := w
        refine wpAny_handleBy_cons (codeAny_handlers_test ?_) (by intro q; cases q)
        have LT : PySem.W.Looks (model X.prog X.w) h3 (typeOf (.ref a)) cls := fun A Q E s k q => wpAny_typeOf_ref (k _ _ he3) (by rw [hz3.1]; exact q)
        have LM := PySem.W.exm_one (M := model X.prog X.w) (J3.kIn) LT hb1
        have test : ∀ {Q : Value → Shared → Prop} {E : Value → Shared → Prop}, Q c { s' with heap := h3 } → wpAny (model X.prog X.w) (X.A.mark (some (.ref a))) (eval (.Name x np) X.env) Q E { s' with heap := h3 } := fun {Q E} q => by
          obtain ⟨hg, hdbg, hm | ⟨hm, hv, hnn⟩⟩ := hc
          · exact ld_glob (X := X.suite a ((a, oe3) :: (X.pn ++ pins))) S3 hg hm q hdbg
          · exact ld_blt (X := X.suite a ((a, oe3) :: (X.pn ++ pins))) S3 hg hm hv q hnn hdbg
        refine test (LM.here ?_)
        cases b with
        | true =>
          refine codeAny_handlers_suite_as ?_
          refine HandSPX.lands_againZ fl3 fun h4 fl4 up4 => ?_
          have J4 : Inv X pins σ' H' { s' with heap := h4 } := J.landed nb fl4.1 ((up.trans up3).trans up4) os ag
          obtain ⟨oe4, vs4, he4, hz4, hd4⟩ := fl4.there
          have S4 := J4.suite he4 hd4 na nL nF
          refine store_ok (X := X.suite a ((a, oe4) :: (X.pn ++ pins))) (v := .ref a) S4 hN hi hloc rfl (fun s5 S5 => ?_) (.inr hln)
          refine wpAny_mono ((hsu a oe4 cls d (X.pn ++ pins) hz4 ⟨_, hd4⟩).run [] s5 _ H' _ S5 (hyes rfl a na)) (fun f s6 hsp => ?_) (fun _ _ z => False.elim z)
          have end_ : ∀ {σ6 : L2.St} {H6 : Hp} {Q : Shared → Prop}, Inv (X.suite a ((a, oe4) :: (X.pn ++ pins))) [] σ6 H6 s6 → (∀ s7, Inv X pins (σ6.set i none) H6 s7 → Q s7) →
              wpAny (model X.prog X.w) X.A (do bindName X.env n .none; unbindBehindTheSuite X.env n pos') (fun _ s7 => Q s7) X.xe s6 := fun {σ6 H6 Q} S6 hq => gone_ok (S6.unsuite ok) hN hi hln hq
          cases f with
          | next =>
            obtain ⟨σ6, H6, S6, q6⟩ := hsp
            exact end_ S6 fun s7 J7 => ⟨_, _, J7, q6⟩
          | brk =>
            obtain ⟨σ6, H6, S6, q6⟩ := hsp
            exact end_ S6 fun s7 J7 => ⟨_, _, J7, q6⟩
          | cont =>
            obtain ⟨σ6, H6, S6, q6⟩ := hsp
            exact end_ S6 fun s7 J7 => ⟨_, _, J7, q6⟩
          | ret u =>
            obtain ⟨v6, σ6, H6, S6, r6, q6⟩ := hsp
            exact end_ S6 fun s7 J7 => ⟨_, _, _, J7, r6, q6⟩
        | false =>
          show wpAny _ X.A (handleBy (.ref a) X.env hds2) _ _ _
          exact ih (hno rfl)
    exact go hh w
  · cases f with
    | next =>
      obtain ⟨σ', H', J', q⟩ := hsp
      exact wpAny_execs_nil ⟨σ', H', J'.ofTry ok, q⟩
    | brk =>
      obtain ⟨σ', H', J', q⟩ := hsp
      exact ⟨σ', H', J'.ofTry ok, q⟩
    | cont =>
      obtain ⟨σ', H', J', q⟩ := hsp
      exact ⟨σ', H', J'.ofTry ok, q⟩
    | ret u =>
      obtain ⟨v, σ', H', J', r, q⟩ := hsp
      exact ⟨v, σ', H', J'.ofTry ok, r, q⟩
end

/-! ### x == y, x an instance with an own __eq__ -/
section
variable {X : Cx} {CX : CXT} {C f : Addr} {fd : FuncData} {ps : List Str} {sp : Sp} {E : XK} {k : Nat}
/-- y an instance of the same class | a tuple -/
def rOwnEq (K : PySem.W.Frag) (C : Addr) (sp : Sp) (E : XK) : R2 := fun x y H Q => ∃ a dx fs, x = .ref a ∧ H a = some (.ins C dx fs) ∧ ((∃ b dy gs, y = .ref b ∧ H b = some (.ins C dy gs)) ∨ ∃ b xs, y = .ref b ∧ SqT K H b xs) ∧ sp [x, y] H (fun v H' => (∃ r, v = .bl r) ∧ Q v H') E
theorem op_ownEq (F : FnOk X.prog X.w X.K X.mg X.base CX k f fd ps sp) (hr : Room k X.A) (hs : PySem.W.findIn X.K (.ref C) "__eq__" = some (some (.ref f))) (hf : PySem.W.isFn X.K (.ref f) = true) (hb : L2.Binds X.K fd ps []) (nf : PySem.W.notFirst X.K C (.type "tuple") = true) (hx : Passes CX X E) :
    OpR X (compareOp .Eq) (rOwnEq X.K C sp E) := by
  intro pins s σ H x y v u Q I rx ry hq
  obtain ⟨a, dx, fs, rfl, ha, hy, hsp⟩ := hq
  cases rx
  show wpAny (model X.prog X.w) X.A (richCompare .Eq (.ref a) u) (EP X pins σ Q) X.xe s
  obtain ⟨mA, J, _⟩ := ins_get I.hok ha
  obtain ⟨od, J, _⟩ := J.look
  obtain ⟨m, hF⟩ := I.fr
  have run : wpAny (model X.prog X.w) X.A (call (.ref f) [.ref a, u]) (PySem.W.CmpBack (EP X pins σ Q)) X.xe s := by
    have r2 : Vals [V.ref a, y] [Value.ref a, u] := .cons rfl (.cons ry .nil)
    refine wpAny_mono (run_fn (us := [.ref a, u]) (vs := [.ref a, y]) (dvs := []) (ds := []) F hr hb .nil hx I r2 (by rw [List.append_nil]; exact hsp)) (fun w s' h => ?_) fun _ _ z => z
    obtain ⟨z, H', I', rz, ⟨r, er⟩, q⟩ := h
    subst er
    cases rz
    show EP X pins σ Q (.bool r) s'
    exact ⟨.bl r, H', I', rfl, q⟩
  rcases hy with ⟨b, dy, gs, rfl, hb'⟩ | ⟨b, xs, rfl, hb'⟩
  · cases ry
    obtain ⟨mB, J', _⟩ := ins_get I.hok hb'
    obtain ⟨od', J', _⟩ := J'.look
    exact PySem.W.cmp_K (op := .Eq) (tb := .ref C) hr.units0 hF I.ok.mod.kin J J'.type (by simp [PySem.W.notFirst]) hs hf run
  · cases ry
    obtain ⟨its, rv, ⟨o, ho, hc, _⟩, _⟩ := I.tuple hb'
    exact PySem.W.cmp_K (op := .Eq) (tb := .type "tuple") hr.units0 hF I.ok.mod.kin J (fun A Q E s k q => wpAny_typeOf_ref (k _ _ ho) (by rw [hc]; exact q)) nf hs hf run
end
end Dx

/-! More rules: t[::-1] of a tuple, slices, in, a text walked, insert. -/
namespace Dx
open PySem PySem.Spec PyProof.Rows L2 Evl Ex
/-! ### t[::-1] -/
section
variable {prog : Program} {w : World} {A : Around} {E : Value → Shared → Prop} {s : Shared}
theorem adjust_rev (n : Nat) : Builtin.Slice.sliceAdjust none none (-1) (n : Int) = ((n : Int) - 1, -1) := by
  have h1 : ((-1 : Int) < 0) := by decide
  unfold Builtin.Slice.sliceAdjust
  simp only [h1, if_true]
theorem places_rev (n : Nat) : Builtin.Slice.slicePlaces ((n : Int) - 1) (-1) (-1) = n := by
  unfold Builtin.Slice.slicePlaces
  have h1 : ¬ ((-1 : Int) > 0) := by decide
  have h2 : ((n : Int) - 1 - -1 - 1) / (- -1) = (n : Int) - 1 := by
    rw [show (- -1 : Int) = 1 by decide, Int.ediv_one]
    omega
  simp only [h1, if_false, h2]
  split <;> omega
theorem fm_congr {α β : Type} {f g : α → Option β} : ∀ {l : List α}, (∀ x ∈ l, f x = g x) → l.filterMap f = l.filterMap g
  | [], _ => rfl
  | a :: l, h => by
    rw [List.filterMap_cons, List.filterMap_cons, h a List.mem_cons_self, fm_congr fun x hx => h x (List.mem_cons_of_mem _ hx)]
theorem pick_rev (xs : Array Value) : ((List.range xs.size).filterMap fun (m : Nat) => xs[(((xs.size : Nat) : Int) - 1 + (m : Int) * (-1)).toNat]?).toArray = xs.toList.reverse.toArray := by
  congr 1
  rw [← PySem.W.krv_all xs, ← List.filterMap_reverse, ← PySem.W.krv_range, List.filterMap_map]
  refine fm_congr fun m hm => ?_
  have := List.mem_range.mp hm
  show xs[(((xs.size : Nat) : Int) - 1 + (m : Int) * (-1)).toNat]? = xs[xs.size - 1 - m]?
  congr 1
  omega
theorem getItem_tuple_rev {t sl : Addr} {items : Array Value} {vs : Value} {Q : Value → Shared → Prop} (ht : IsTup s.heap t items) (hs : s.heap.IsSliceOf sl .none .none vs) (ps : IsPart vs (some (-1)))
    (h : Q (.ref s.heap.objs.size) { s with heap := s.heap.push { cls := .type "tuple", data := .seq items.toList.reverse.toArray } })
    (hsz : items.size ≤ sizeLine) : wpAny (model prog w) A (getItem (.ref t) (.ref sl)) Q E s := by
  have htake : sizeOk (.seq items.toList.reverse.toArray) := by
    show items.toList.reverse.toArray.size ≤ sizeLine
    rw [List.size_toArray, List.length_reverse, Array.length_toList]
    exact hsz
  obtain ⟨os, hos, hcs, hds⟩ := id hs
  have hTs : s.TypeIs (.ref sl) "slice" := ⟨os, hos, hcs⟩
  unfold getItem
  try with_reducible refine wpAny_holding ?_
  first | refine wpAny_bind (wpAny_pure ?_) | skip
  refine wpAny_bind (wpAny_sequenceKey ht.typeIs (by decide) ?_)
  refine wpAny_bind (wpAny_callSpecial?_slot (name := Str.ofString "__getitem__") ht.typeIs PyProof.Rows.slot_tuple_getitem
    (wpAny_call_entry PyProof.Rows.slot_tuple_getitem ht.typeIs entry_tuple_getitem ?_ (args_tuple_getitem _ _)))
  show wpAny _ _ (Builtin.Tuple.tupleItemsOf (.ref t) >>= _) _ _ s
  refine wpAny_bind (tupleItemsOf_ ht ?_)
  refine wpAny_bind (wpAny_typeOf hTs ?_)
  rw [if_pos (by decide)]
  have app : ∀ {R : Int × Int × Nat → Shared → Prop} {A' : Around} {E' : Value → Shared → Prop}, R (((items.size : Nat) : Int) - 1, -1, items.size) s → wpAny (model prog w) A' (Builtin.Slice.sliceApplied (.ref sl) (pure ((items.size : Nat) : Int))) R E' s := by
    intro R A' E' hR
    unfold Builtin.Slice.sliceApplied Builtin.Slice.sliceFields
    refine wpAny_bind (wpAny_bind (wpAny_field hos hds (x := .none) rfl (wpAny_bind (wpAny_field hos hds (x := .none) rfl (wpAny_bind (wpAny_field hos hds (x := vs) rfl (wpAny_pure ?_)))))))
    refine wpAny_bind (HT.slicePart_ ps ?_)
    show wpAny _ _ (if ((-1 : Int) == 0) = true then _ else _) _ _ s
    rw [if_neg (by decide)]
    refine wpAny_bind (slicePart_none (wpAny_bind (slicePart_none (wpAny_bind (wpAny_pure ?_)))))
    show wpAny _ _ (match Builtin.Slice.sliceAdjust none none (-1) ((items.size : Nat) : Int) with | (lo, hi) => pure (lo, (-1 : Int), Builtin.Slice.slicePlaces lo hi (-1))) _ _ s
    rw [adjust_rev]
    show wpAny _ _ (pure (((items.size : Nat) : Int) - 1, (-1 : Int), Builtin.Slice.slicePlaces (((items.size : Nat) : Int) - 1) (-1) (-1))) _ _ s
    rw [places_rev]
    exact wpAny_pure hR
  refine wpAny_bind (app ?_)
  have hno : ¬ ((((items.size : Nat) : Int) - 1 == 0 && (-1 : Int) == 1 && items.size == items.size) = true) := by
    intro q
    rw [Bool.and_eq_true, Bool.and_eq_true] at q
    exact absurd q.1.2 (by decide)
  show wpAny _ _ (if (((items.size : Nat) : Int) - 1 == 0 && (-1 : Int) == 1 && items.size == items.size) = true then _ else _) _ _ s
  rw [if_neg hno, pick_rev]
  first
    | exact wpAny_bind (m := Builtin.Tuple.tupleExact _) (wpAny_newObj_type (wpAny_pure ⟨_, rfl, wpAny_pure h⟩) htake)
    | exact wpAny_bind (m := Builtin.Tuple.tupleExact _) (wpAny_newObj_type (wpAny_bind (wpAny_pure (wpAny_pure ⟨_, rfl, wpAny_pure h⟩))) htake)
    | exact wpAny_bind (wpAny_bind (m := Builtin.Tuple.tupleExact _) (wpAny_newObj_type (wpAny_pure (wpAny_pure ⟨_, rfl, wpAny_pure h⟩)) htake))
    | exact wpAny_bind (wpAny_bind (m := Builtin.Tuple.tupleExact _) (wpAny_newObj_type (wpAny_pure ⟨_, rfl, wpAny_pure h⟩) htake))
end
section
variable {X : Cx}
def tRevT (K : PySem.W.Frag) (te : TE) : TE := fun σ H Q => te σ H fun x H1 => ∃ a xs, x = .ref a ∧ SqT K H1 a xs ∧ ∀ p, H1 p = none → Q (.ref p) (upd H1 p (.tup xs.reverse))
theorem pe_revT {e : Expr} {te : TE} {k : Nat} {p1 p2 p3 pos : Pos} (he : PE X e te) : PE X (.Subscript e (.Slice none none (some (.UnaryOp .USub (.Constant (.int 1) k p1) p2)) p3) pos) (tRevT X.K te) := by
  refine ⟨fun pins s σ H Q I h => ?_⟩
  refine Subscript_ (thn (he.run pins s σ H _ I h) fun v s1 ⟨x, H1, I1, r1, q1⟩ => ?_)
  obtain ⟨a, xs, ex, hx, q⟩ := q1
  subst ex
  cases r1
  have hst : PO X (some (.UnaryOp .USub (.Constant (.int 1) k p1) p2)) (tPart (tUn (rU fun i => .int (-i)) (tC (.int 1)))) := po_some (pe_un un_neg pe_int)
  refine wpAny_Slice (thn (po_none.run pins s1 σ H1 (fun o H2 => o = none ∧ H2 = H1) I1 ⟨rfl, rfl⟩) fun vl s2 ⟨l, H2, I2, pl, el, e2⟩ => ?_)
  subst el e2
  refine thn (po_none.run pins s2 σ H2 (fun o H3 => o = none ∧ H3 = H2) I2 ⟨rfl, rfl⟩) fun vu s3 ⟨u, H3, I3, pu, eu, e3⟩ => ?_
  subst eu e3
  refine thn (hst.run pins s3 σ H3 (fun o H4 => o = some (-1) ∧ H4 = H3) I3 ⟨1, rfl, -1, rfl, rfl, rfl⟩) fun vs s4 ⟨o, H4, I4, ps, eo, e4⟩ => ?_
  subst eo e4
  have I5 : Inv X pins σ H4 { s4 with heap := s4.heap.push { cls := .type "slice", data := .fields #[vl, vu, vs] } } := I4.kept (t' := s4.toks) fun b ob q => Heap.get?_push_of_some _ q
  obtain ⟨its, r, ht, hz⟩ := I5.tuple hx
  have hlen := r.length
  cases pl
  cases pu
  show wpAny (model X.prog X.w) X.A (subscriptTail e (.Slice none none (some (.UnaryOp .USub (.Constant (.int 1) k p1) p2)) p3) (.ref a) (.ref s4.heap.objs.size)) (EP X pins σ Q) X.xe { s4 with heap := s4.heap.push { cls := .type "slice", data := .fields #[.none, .none, vs] } }
  refine tail_any (ops := [.ref a, .ref s4.heap.objs.size]) ht.typeIs (PyProof.Rows.slot_tuple_getitem.lookup) ?_ (by with_unfolding_all rfl)
  refine getItem_tuple_rev ht (Heap.IsSliceOf.new _ .none .none vs) ps ?_ (by rw [List.size_toArray]; omega)
  refine ⟨.ref _, _, I5.laid (t' := s4.toks) (o := .tup xs.reverse) (fun b ob q => Heap.get?_push_of_some _ q) (Nat.le_refl _) ?_, rfl, q _ (I5.hok.fresh (Nat.le_refl _))⟩
  exact ⟨by rw [List.length_reverse]; exact hz, _, r.reverse, _, Heap.get?_push_size _ rfl, rfl, 0, rfl⟩
theorem pe_revTK (K : PySem.W.Frag) {e : Expr} {te : TE} {k : Nat} {p1 p2 p3 pos : Pos} (he : PE X e te) (hK : X.K = K := by rfl) : PE X (.Subscript e (.Slice none none (some (.UnaryOp .USub (.Constant (.int 1) k p1) p2)) p3) pos) (tRevT K te) := by subst hK; exact pe_revT he
end

/-! ### slices x[i:j] of tuples and texts -/
section
variable {X : Cx}
def rSlX (K : PySem.W.Frag) : V → Option Int → Option Int → Hp → VK → Prop := fun x lo hi H Q => rSlA K x lo hi H Q ∨ rSlS x lo hi H Q
theorem sl_anyK (K : PySem.W.Frag) (hK : X.K = K := by rfl) : SlR X (rSlX K) := by subst hK; exact sl_tupA.or sl_str
end
def EO (F : Fm) (to : TO) (σ : L2.St) (B : Hp) (o : Option Int) : Prop := ∀ B1, Ex B B1 → ∀ H, Ok F B1 H → ∀ Q : Option Int → Hp → Prop, (∀ B' H', Step F.M B1 H B' H' → Ok F B' H' → Q o H') → to σ H Q
def cutL {α : Type} (xs : List α) (lo hi : Option Int) : List α := (xs.drop (HT.sIx xs.length 0 lo)).take (HT.sIx xs.length xs.length hi - HT.sIx xs.length 0 lo)
section
variable {F : Fm} {K : PySem.W.Frag} {σ : L2.St} {B : Hp} {te : TE} {tl th : TO} {lo hi : Option Int} {ds : List PyData} {x y z d : PyData}
theorem eo_none : EO F tNoPart σ B none := fun B1 e0 H k Q q => q B1 H (Step.refl k.e) k
theorem eo_some {i : Int} (h : ED F K te σ B (.int i)) : EO F (tPart te) σ B (some i) := fun B1 e0 H k Q q => h B1 e0 H k _ fun v B2 H2 s2 k2 g => ⟨i, dd_int g, q B2 H2 s2 k2⟩
theorem cutL_len {α : Type} (xs : List α) (lo hi : Option Int) : (cutL xs lo hi).length ≤ xs.length := by
  unfold cutL
  rw [List.length_take, List.length_drop]
  omega
theorem ed_slT (h : ED F K te σ B (.tuple ds)) (hl : EO F tl σ B lo) (hh : EO F th σ B hi) : ED F K (tSl (rSlX K) te tl th) σ B (.tuple (cutL ds lo hi)) := fun B1 e0 H k Q q =>
  h B1 e0 H k _ fun v B2 H2 s2 k2 g => hl B2 (e0.trans s2.bb) H2 k2 _ fun B3 H3 s3 k3 => hh B3 ((e0.trans s2.bb).trans s3.bb) H3 k3 _ fun B4 H4 s4 k4 => by
    have gd := Dd.up g (s3.bb.trans s4.bb)
    obtain ⟨a, xs, rfl, h1, l1, g1⟩ := dd_tup gd
    have en := g1.len
    have ec : cutV xs lo hi = cutL xs lo hi := rfl
    refine .inl ⟨a, xs, rfl, ex_t k4.e h1, fun hw => ?_, fun hw p hp => ?_⟩
    · have ed : cutL ds lo hi = ds := by
        unfold cutL
        rw [en] at hw
        rw [hw.1, hw.2, List.drop_zero, Nat.sub_zero, List.take_length]
      refine q (.ref a) B4 H4 ((s2.trans s3).trans s4) k4 ?_
      rw [ed]
      exact gd
    · refine q (.ref p) _ _ (((s2.trans s3).trans s4).trans (Step.alloc k4.e hp)) (k4.alloc hp) (.tup (ta_of upd_same) ?_ ?_)
      · exact Nat.le_trans (cutV_length xs lo hi) l1
      · have g2 : DdAll K B4 (cutL xs lo hi) (cutL ds lo hi) := by
          unfold cutL
          rw [en]
          exact (g1.drop _).take _
        exact g2.up (Ex.new (fresh_back k4.e hp))
theorem ed_slS {s : Str} (h : ED F K te σ B (.str s)) (hl : EO F tl σ B lo) (hh : EO F th σ B hi) (hz : (cutS s lo hi).length ≤ 16777216) : ED F K (tSl (rSlX K) te tl th) σ B (.str (cutS s lo hi)) := fun B1 e0 H k Q q =>
  h B1 e0 H k _ fun v B2 H2 s2 k2 g => hl B2 (e0.trans s2.bb) H2 k2 _ fun B3 H3 s3 k3 => hh B3 ((e0.trans s2.bb).trans s3.bb) H3 k3 _ fun B4 H4 s4 k4 => by
    obtain ⟨rfl, hl⟩ := dd_str g
    exact .inr ⟨s, rfl, hl, q _ B4 H4 ((s2.trans s3).trans s4) k4 (.str _ (by rw [sizeLine_eq]; exact hz))⟩
theorem ed_rev (h : ED F K te σ B (.tuple ds)) : ED F K (tRevT K te) σ B (.tuple ds.reverse) := fun B1 e0 H k Q q =>
  h B1 e0 H k _ fun v B2 H2 s2 k2 g => by
    obtain ⟨a, xs, rfl, h1, l1, g1⟩ := dd_tup g
    exact ⟨a, xs, rfl, ex_t k2.e h1, fun p hp => q _ _ _ (s2.trans (Step.alloc k2.e hp)) (k2.alloc hp) (.tup (ta_of upd_same) (by rw [List.length_reverse]; exact l1) ((g1.rev).up (Ex.new (fresh_back k2.e hp))))⟩

/-! ### x in xs, flat -/
def flatD : PyData → Bool
  | .none => true
  | .bool _ => true
  | .int _ => true
  | .str _ => true
  | _ => false
theorem flat_dv {H : Hp} {v : V} (h : Dd K H v d) (f : flatD d = true) : flatV v = true := by
  cases h <;> first | rfl | cases f
theorem eqV_dv {H : Hp} {v u : V} {e : PyData} (h : Dd K H v d) (g : Dd K H u e) (f : flatD d = true) (f' : flatD e = true) : eqV v u = PyData.eqv d e := by
  cases h <;> cases g <;> first | rfl | (cases f) | (cases f') | (simp [eqV, PyData.eqv])
theorem flats_dv {H : Hp} : ∀ {vs : List V} {ds : List PyData}, DdAll K H vs ds → ds.all flatD = true → vs.all flatV = true
  | _, _, .nil, _ => rfl
  | _, _, .cons a t, f => by
    rw [List.all_cons, Bool.and_eq_true] at f
    rw [List.all_cons, flat_dv a f.1, flats_dv t f.2]
    rfl
theorem inV_dv {H : Hp} {v : V} (h : Dd K H v d) (f : flatD d = true) : ∀ {vs : List V} {ds : List PyData}, DdAll K H vs ds → ds.all flatD = true → inV v vs = ds.any fun e => PyData.eqv e d
  | _, _, .nil, _ => rfl
  | _, _, .cons a t, g => by
    rw [List.all_cons, Bool.and_eq_true] at g
    have ih := inV_dv h f t g.2
    unfold inV at ih ⊢
    rw [List.any_cons, List.any_cons, ih, eqV_dv a h g.1 f]
def inD (d : PyData) (ds : List PyData) : Bool := ds.any fun e => PyData.eqv e d
theorem rd_in {neg : Bool} (hy : y = .list ds ∨ y = .tuple ds) (f : flatD x = true) (g : ds.all flatD = true) : RD2 F K (rIn K neg) B x y (.bool (if neg then !inD x ds else inD x ds)) := rd_of fun H u v hu hv => by
  rcases hy with rfl | rfl
  · obtain ⟨a, xs, rfl, h1, l1, g1⟩ := dd_lst hv
    refine ⟨.bl (if neg then !inD x ds else inD x ds), fun _ => .bl _, fun Q q => ⟨a, xs, rfl, .inl (sq_of h1), flat_dv hu f, flats_dv g1 g, ?_⟩⟩
    rw [inV_dv hu f g1 g]
    exact q
  · obtain ⟨a, xs, rfl, h1, l1, g1⟩ := dd_tup hv
    refine ⟨.bl (if neg then !inD x ds else inD x ds), fun _ => .bl _, fun Q q => ⟨a, xs, rfl, .inr h1, flat_dv hu f, flats_dv g1 g, ?_⟩⟩
    rw [inV_dv hu f g1 g]
    exact q
theorem rd_isin (hy : y = .list ds ∨ y = .tuple ds) (f : flatD x = true) (g : ds.all flatD = true) : RD2 F K (rIn K false) B x y (.bool (inD x ds)) := rd_in (neg := false) hy f g
theorem rd_notin (hy : y = .list ds ∨ y = .tuple ds) (f : flatD x = true) (g : ds.all flatD = true) : RD2 F K (rIn K true) B x y (.bool (!inD x ds)) := rd_in (neg := true) hy f g
/-! ### all, is, texts -/
theorem bls_dv {H : Hp} : ∀ {vs : List V} {bs : List Bool}, DdAll K H vs (bs.map .bool) → vs = bs.map V.bl
  | _, [], h => by cases h; rfl
  | _, b :: bs, h => by
    cases h with
    | cons a t =>
      rw [dd_bl a, bls_dv t]
      rfl
theorem rc_all {bs : List Bool} : RDc F K (rAll K) B [.list (bs.map .bool)] (.bool (bs.all id)) := rc_of fun H u hu => by
  obtain ⟨a, xs, rfl, h1, l1, g1⟩ := dd_lst hu
  exact ⟨.bl (bs.all id), fun _ => .bl _, fun Q q => ⟨a, bs, rfl, by rw [← bls_dv g1]; exact sq_of h1, q⟩⟩
theorem rd_isB {a b : Bool} : RD2 F K rIsB B (.bool a) (.bool b) (.bool (decide (a = b))) := rd_of fun H u v hu hv => ⟨.bl _, fun _ => .bl _, fun Q q => ⟨a, b, dd_bl hu, dd_bl hv, q⟩⟩
theorem rd_ltS {a b : Str} : RD2 F K (fun x y H Q => ∃ i j, x = .str i ∧ y = .str j ∧ Q (.bl (decide (i.cps.toList < j.cps.toList))) H) B (.str a) (.str b) (.bool (decide (a.cps.toList < b.cps.toList))) := rd_of fun H u v hu hv => ⟨.bl _, fun _ => .bl _, fun Q q => ⟨a, b, (dd_str hu).1, (dd_str hv).1, q⟩⟩
theorem rd_gtS {a b : Str} : RD2 F K (fun x y H Q => ∃ i j, x = .str i ∧ y = .str j ∧ Q (.bl (decide (j.cps.toList < i.cps.toList))) H) B (.str a) (.str b) (.bool (decide (b.cps.toList < a.cps.toList))) := rd_of fun H u v hu hv => ⟨.bl _, fun _ => .bl _, fun Q q => ⟨a, b, (dd_str hu).1, (dd_str hv).1, q⟩⟩
theorem rd_leS {a b : Str} : RD2 F K (fun x y H Q => ∃ i j, x = .str i ∧ y = .str j ∧ Q (.bl (!decide (j.cps.toList < i.cps.toList))) H) B (.str a) (.str b) (.bool (!decide (b.cps.toList < a.cps.toList))) := rd_of fun H u v hu hv => ⟨.bl _, fun _ => .bl _, fun Q q => ⟨a, b, (dd_str hu).1, (dd_str hv).1, q⟩⟩
theorem rd_rep {n : Int} (h0 : ds ≠ []) (h1 : 2 ≤ n) (h2 : n ≤ 1000) (h3 : ds.length ≤ 1000) : RD2 F K (rRepT K) B (.tuple ds) (.int n) (.tuple (List.replicate n.toNat ds).flatten) := fun B1 e0 H u v k hu hv Q q => by
  obtain ⟨a, xs, rfl, g1, l1, g2⟩ := dd_tup hu
  have en := g2.len
  refine ⟨a, n, xs, rfl, dd_int hv, ex_t k.e g1, fun z => h0 ?_, h1, h2, by rw [en]; exact h3, fun p hp => q _ _ _ (Step.alloc k.e hp) (k.alloc hp) (.tup (ta_of upd_same) ?_ ((g2.rep _).up (Ex.new (fresh_back k.e hp))))⟩
  · rw [z] at en
    exact List.eq_nil_of_length_eq_zero en.symm
  · rw [List.length_flatten, List.map_replicate, List.sum_replicate_nat, en, sizeLine_eq]
    have : n.toNat ≤ 1000 := by omega
    exact Nat.le_trans (Nat.mul_le_mul this h3) (by decide)
/-- [te for c in s if tt], s a text -/
def sgn (c : Nat) : Str := ⟨#[c]⟩
theorem ed_lcS {tt : TT} {j : Nat} {vsN : List Nat} {s : Str} (p : Nat → Bool) (g : Nat → PyData) (h : ED F K te σ B (.str s)) (hw : ∀ x, wipe ((wipe σ vsN).set j (some x)) vsN = wipe σ vsN) {tel : TE}
    (ht : ∀ c B1, c ∈ s.cps.toList → Ex B B1 → ETt F tt ((wipe σ vsN).set j (some (.str (sgn c)))) B1 (p c))
    (he : ∀ c B1, c ∈ s.cps.toList → p c = true → Ex B B1 → ED F K tel ((wipe σ vsN).set j (some (.str (sgn c)))) B1 (g c)) :
    ED F K (tLc (iStr te) (gName j) tt tel vsN) σ B (.list ((s.cps.toList.filter p).map g)) := fun B0 e0 H0 k0 Q q => by
  refine h B0 e0 H0 k0 _ fun v B1 H1 s1 k1 pv => ?_
  obtain ⟨rfl, hl⟩ := dd_str pv
  have hsz : s.cps.toList.length = s.length := by simp [Str.length]
  have fl : ∀ i, ((s.cps.toList.take i).filter p).length ≤ i := fun i => Nat.le_trans (List.length_filter_le _ _) (by rw [List.length_take]; exact Nat.min_le_left _ _)
  rw [sizeLine_eq] at hl
  refine ⟨s, rfl, fun Dl hD => ⟨fun i m H' => m = s.cps.size - i ∧ i ≤ s.cps.size ∧ Cq F K B1 H1 Dl (((s.cps.toList.take i).filter p).map g) H', ⟨s.cps.size, by simp, Nat.zero_le _, cq_start k1 hD⟩, ?_⟩⟩
  rintro i m H' ⟨rfl, hi, c⟩
  by_cases hlt : i < s.cps.size
  · refine .inr ⟨hlt, fun H2 => Cq F K B1 H1 Dl (((s.cps.toList.take (i + 1)).filter p).map g) H2, fun H2 c2 => ⟨s.cps.size - (i + 1), by omega, rfl, hlt, c2⟩, ?_⟩
    rintro x H2 ⟨rfl, ch, hc, rfl⟩
    have hc' : s.cps.toList[i]? = some ch := by
      rw [Array.getElem?_toList]
      exact hc
    refine ⟨hw _, ?_⟩
    rw [take_snoc hc', filter_snoc]
    exact cq_turn k1 hD (by rw [List.length_map]; exact Nat.lt_of_le_of_lt (fl i) (by have : s.cps.size = s.length := rfl; omega)) c (fun B' e => ht ch B' (List.mem_of_getElem? hc') ((e0.trans s1.bb).trans e)) (fun hp B' e => he ch B' (List.mem_of_getElem? hc') hp ((e0.trans s1.bb).trans e))
  · have e : i = s.cps.size := by omega
    subst e
    refine .inl ⟨Nat.le_refl _, ?_⟩
    rw [show s.cps.size = s.cps.toList.length from by simp, List.take_length] at c
    obtain ⟨B2, s2, k2, g2⟩ := cq_done k1 hD (by rw [List.length_map]; exact Nat.le_trans (List.length_filter_le _ _) (by omega)) c
    exact q _ B2 _ (s1.trans s2) k2 g2
end
end Dx

/-! [.. for x, y in pairs if ..]: a comprehension whose target is a pair of names. -/
namespace Dx
open PySem PySem.Spec PyProof.Rows L2 Evl
section
variable {F : Fm} {K : PySem.W.Frag} {σ : L2.St} {B : Hp} {tl te : TE} {tt : TT} {i j : Nat} {ds : List PyData} {vsN : List Nat}
abbrev g2 (K : PySem.W.Frag) (i j : Nat) : TG := gTup K 2 (gCons (gName i) (gCons (gName j) gNil))
theorem ed_lcP (p : PyData → Bool) (g : PyData → PyData) (h : EV F tl σ B (SqV K (DDs K ds))) (hz : ds.length ≤ 16777216) (hp : ∀ d ∈ ds, ∃ x y, d = .tuple [x, y]) (hw : ∀ u v, wipe (((wipe σ vsN).set i (some u)).set j (some v)) vsN = wipe σ vsN)
    (ht : ∀ x y u v B1, PyData.tuple [x, y] ∈ ds → Ex B B1 → Dd K B1 u x → Dd K B1 v y → ETt F tt (((wipe σ vsN).set i (some u)).set j (some v)) B1 (p (.tuple [x, y])))
    (he : ∀ x y u v B1, PyData.tuple [x, y] ∈ ds → p (.tuple [x, y]) = true → Ex B B1 → Dd K B1 u x → Dd K B1 v y → ED F K te (((wipe σ vsN).set i (some u)).set j (some v)) B1 (g (.tuple [x, y]))) :
    ED F K (tLc (iSeq K tl) (g2 K i j) tt te vsN) σ B (.list ((ds.filter p).map g)) := fun B0 e0 H0 k0 Q q => by
  refine h B0 e0 H0 k0 _ fun v B1 H1 s1 k1 pv => ?_
  obtain ⟨l, vs, rfl, hl, ps⟩ := pv
  have ps' : DdAll K B1 vs ds := ps
  have en := ps'.len
  have fl : ∀ i, ((ds.take i).filter p).length ≤ i := fun i => Nat.le_trans (List.length_filter_le _ _) (by rw [List.length_take]; exact Nat.min_le_left _ _)
  have turn : ∀ (Dl : Addr), H1 Dl = none → ∀ n x H', vs[n]? = some x → Cq F K B1 H1 Dl (((ds.take n).filter p).map g) H' → g2 K i j x (wipe σ vsN) H' fun σ2 H2 => wipe σ2 vsN = wipe σ vsN ∧ tt σ2 H2 fun b H3 =>
      if b = true then te σ2 H3 fun y H4 => ∃ acc, H4 Dl = some (.lst acc) ∧ acc.length < sizeLine ∧ Cq F K B1 H1 Dl (((ds.take (n + 1)).filter p).map g) (upd H4 Dl (.lst (acc ++ [y]))) else Cq F K B1 H1 Dl (((ds.take (n + 1)).filter p).map g) H3 := by
    intro Dl hD n x H' hx c
    obtain ⟨d, hd, hdv⟩ := ps'.getv hx
    have hm : d ∈ ds := List.mem_of_getElem? hd
    have hi : n < ds.length := (List.getElem?_eq_some_iff.mp hd).1
    obtain ⟨a, b, rfl⟩ := hp d hm
    obtain ⟨t, us, rfl, h1, _, hus⟩ := dd_tup hdv
    obtain ⟨u, w, rfl, hu, hw'⟩ := arg2 hus
    obtain ⟨B', acc, s, k, hb, hd', ha⟩ := id c
    refine ⟨t, _, rfl, ex_t (s.bb.trans k.e) h1, rfl, u, _, rfl, w, _, rfl, rfl, hw u w, ?_⟩
    rw [take_snoc hd, filter_snoc]
    exact cq_turn k1 hD (by rw [List.length_map]; exact Nat.lt_of_le_of_lt (fl n) (by omega)) c (fun B' e => ht a b u w B' hm ((e0.trans s1.bb).trans e) (hu.up e) (hw'.up e)) (fun hpt B' e => he a b u w B' hm hpt ((e0.trans s1.bb).trans e) (hu.up e) (hw'.up e))
  have fin : ∀ (Dl : Addr), H1 Dl = none → ∀ H', Cq F K B1 H1 Dl (((ds.take vs.length).filter p).map g) H' → Q (.ref Dl) H' := by
    intro Dl hD H' c
    rw [en, List.take_length] at c
    obtain ⟨B2, s2, k2, g2⟩ := cq_done k1 hD (by rw [List.length_map]; exact Nat.le_trans (List.length_filter_le _ _) hz) c
    exact q _ B2 H' (s1.trans s2) k2 g2
  refine ⟨l, rfl, ?_⟩
  rcases hl with hl | hl
  · refine .inl ⟨⟨vs, ex_l k1.e hl⟩, fun Dl hD => lc_list (K := K) (xs := vs) (fun i => Cq F K B1 H1 Dl (((ds.take i).filter p).map g)) (cq_start k1 hD) (fun i H' _ c => ?_) (fun i x H' hx c => turn Dl hD i x H' hx c) (fun H' c => fin Dl hD H' c)⟩
    obtain ⟨B', acc, s, k, _⟩ := c
    exact ex_l k.e (ex_l s.bb hl)
  · refine .inr ⟨⟨vs, ex_t k1.e hl⟩, fun Dl hD => lc_tup (K := K) (xs := vs) (fun i => Cq F K B1 H1 Dl (((ds.take i).filter p).map g)) (cq_start k1 hD) (fun i H' _ c => ?_) (fun i x H' hx c => turn Dl hD i x H' hx c) (fun H' c => fin Dl hD H' c)⟩
    obtain ⟨B', acc, s, k, _⟩ := c
    exact ex_t k.e (ex_t s.bb hl)
end
end Dx

/-! list.extend of a tuple, list.count of texts, list(reversed(a tuple)). -/
namespace Qx
open PySem PySem.Spec PyProof.Rows L2
open AutoSeq1 (wpAny_loadPart')

/-! ### x.extend(a tuple) -/
theorem extend_tuple (l : Addr) (items : Array Value) (n : Nat) (b : Addr) (dd : Option Addr) (sl : Array (Option Value)) (items2 : Array Value) (n2 : Nat) (hs0 : ¬(!items.isEmpty && Builtin.List.listTooLong (items.size + items2.size)) = true) (hs1 : items.size ≤ sizeLine) (hs2 : items.size + items2.size ≤ sizeLine + 1) :
    Meets (Builtin.«list.extend» ⟨[.ref l, .ref b], []⟩) (fun _ R s => s.heap.get? l = some { cls := .type "list", dict := none, data := .seq items n, slots := #[] } ∧ s.heap.get? b = some { cls := .type "tuple", dict := dd, data := .seq items2 n2, slots := sl } ∧ R (.ok (.ret Value.none)) { s with heap := s.heap.update l (Obj.mapSeq fun x => x ++ items2), toks := s.toks }) :=
  .of_wp fun prog w A R s h => by
    obtain ⟨hp, g, d, tk, os⟩ := s; obtain ⟨hl, hb, h⟩ := h; have f1 := AutoSeq1.idx_int; have f2 := AutoSeq1.sub_tuple_tuple; have f3 := AutoSeq1.sub_list_list; have f4 := AutoSeq1.sub_tuple_list; have f5 := AutoSeq1.sub_list_tuple;
    have hz' : (items ++ items2).size ≤ sizeLine + 1 := by rw [Array.size_append]; exact hs2
    wp_walk using (wpAny_updateSeq hl rfl (hz := hs1) (_hz' := hz')), wpAny_loadPart' hl, wpAny_loadPart' hb; exact ⟨_, rfl, h⟩
section
variable {X : Cx}
def rExtendT (K : PySem.W.Frag) : V → List V → Hp → VK → Prop := fun x vs H Q => ∃ l b xs zs, x = .ref l ∧ vs = [.ref b] ∧ H l = some (.lst xs) ∧ SqT K H b zs ∧ xs.length + zs.length ≤ sizeLine ∧ Q .non (upd H l (.lst (xs ++ zs)))
theorem mt_extendT (K : PySem.W.Frag) (hK : X.K = K := by rfl) : MtM X "list.extend" (rExtendT K) := by
  subst hK
  intro pins s σ H x vs v us Q I rx rv h
  obtain ⟨l, b, xs, zs, rfl, rfl, hH, hB, hz, q⟩ := h
  cases rx
  obtain ⟨u, rfl, ru⟩ := rv.one
  cases ru
  obtain ⟨z, its, n, r, hl, e⟩ := I.lstM hH
  obtain ⟨its2, r2, ⟨⟨cls, dd, data, sl⟩, e2, hc, n2, hd⟩, hl2⟩ := I.tuple hB
  simp only at hc hd
  subst hc hd
  have hl3 := r2.length
  have hsz : its.toArray.size + its2.toArray.size ≤ sizeLine := by rw [List.size_toArray, List.size_toArray]; omega
  have hlong : ¬ (!its.toArray.isEmpty && Builtin.List.listTooLong (its.toArray.size + its2.toArray.size)) = true := by
    rw [notLongL hsz, Bool.and_false]
    exact Bool.false_ne_true
  refine call_meets F.slot_list_extend ⟨_, e, rfl⟩ F.entry_list_extend (F.args_list_extend_2 _ _)
    (extend_tuple l its.toArray n b dd sl its2.toArray n2 hlong (by rw [List.size_toArray]; omega) (by omega)) ⟨e, e2, ?_⟩
  refine ⟨.non, _, I.lset (its' := its ++ its2) hH e (by simp) (r.append r2) ?_, rfl, q⟩
  rw [List.length_append]
  omega

/-! ### x.count(text), x a list of texts -/
def eqs (k : Str) (v : Value) : Bool := match v with
  | .str n _ => n == k
  | _ => false
theorem strs_of {xs : List Str} : ∀ {us : List Value}, Vals (xs.map V.str) us → (∀ y ∈ us, ∃ x t, y = .str x t) ∧ ∀ k, us.countP (eqs k) = xs.count k := by
  induction xs with
  | nil =>
    intro us r
    cases r
    exact ⟨fun y hy => (nomatch hy), fun k => rfl⟩
  | cons x xs ih =>
    intro us r
    cases r with
    | cons a t =>
      obtain ⟨h1, h2⟩ := ih t
      obtain ⟨tk, rfl⟩ := a
      refine ⟨fun y hy => ?_, fun k => ?_⟩
      · rcases List.mem_cons.mp hy with rfl | hy
        · exact ⟨_, _, rfl⟩
        · exact h1 y hy
      · rw [List.countP_cons, List.count_cons, h2 k]
        rfl
def rCntS (K : PySem.W.Frag) : V → List V → Hp → VK → Prop := fun x xs H Q => ∃ (p : Addr) (ns : List Str) (k : Str), x = .ref p ∧ xs = [.str k] ∧ SqL K H p (ns.map V.str) ∧ Q (.int (ns.count k : Nat)) H
theorem mt_scount (K : PySem.W.Frag) (hK : X.K = K := by rfl) : MtR X "list.count" (rCntS K) := by
  subst hK
  intro pins s σ H x xs v us Q I rx rxs h
  obtain ⟨p, ns, k, rfl, rfl, hs, q⟩ := h
  cases rx
  obtain ⟨u, rfl, ru⟩ := rxs.one
  obtain ⟨t, rfl⟩ := ru
  obtain ⟨its, rv, ⟨⟨cls, dd, data, sl⟩, n, ho, hc, hdn, hd⟩, hlen⟩ := I.list hs
  simp only at hc hd
  subst hc hd
  obtain ⟨hi, ec⟩ := strs_of rv
  refine call_meets PySem.F.slot_list_count ⟨_, ho, rfl⟩ PySem.F.entry_list_count (PySem.F.args_list_count_2 _ _)
    (SeqAt.list_countAt p its.toArray n dd sl (.str k t) (eqs k)) ⟨ho, fun y hy => ?_, ?_⟩
  · obtain ⟨x, t', rfl⟩ := hi y (by simpa using hy)
    exact SeqAt.EqAt.str_str x t' k t
  · refine ⟨.int (ns.count k : Nat), H, I.tok _, ⟨s.toks, ?_⟩, q⟩
    show Value.int ((its.toArray.toList.countP (eqs k) : Nat) : Int) s.toks = Value.int ((ns.count k : Nat) : Int) s.toks
    rw [ec k]
end

/-! ### list(reversed(a tuple)) -/
theorem nolen_rt : typeLookup (.type "reversed") "__len__" = pure none := by rw [typeLookup_type, builtinLookup_eq_fast]; kernel_rfl
theorem hint_rt : typeLookup (.type "reversed") "__length_hint__" = pure (some (.builtin "reversed.__length_hint__")) := by rw [typeLookup_type, builtinLookup_eq_fast]; kernel_rfl
theorem walks_rt {prog : Program} {w : World} {A : Around} (hh : A.handled = none) (I l : Addr) (hne : l ≠ I) (items : Array Value) (hz : items.size ≤ sizeLine) :
    Walks prog w A I [I, l] [I] items.size (fun i v => items[items.size - 1 - i]? = some v) (fun i h => i ≤ items.size ∧ RT.IsRt h I l ((items.size : Int) - 1 - (i : Int)) ∧ IsTup h l items) where
  sub := fun b hb => by simp at hb; simp [hb]
  frame := fun _ _ _ x hk => ⟨x.1, x.2.1.at fun o e => hk I (by simp) o e, let ⟨o, ho, r⟩ := x.2.2; ⟨o, hk l (by simp) o ho, r⟩⟩
  item := fun i s Q E hi x hQ => by
    have e : (items.size : Int) - 1 - (i : Int) = ((items.size - 1 - i : Nat) : Int) := by omega
    have hit := x.2.1
    rw [e] at hit
    have hx : items[items.size - 1 - i]? = some (items[items.size - 1 - i]'(by omega)) := Array.getElem?_eq_getElem (by omega)
    refine RT.next_rt_item hit x.2.2 hx hz fun h' hit' hs' => ?_
    have e2 : ((items.size - 1 - i : Nat) : Int) - 1 = (items.size : Int) - 1 - ((i + 1 : Nat) : Int) := by omega
    rw [e2] at hit'
    exact hQ _ h' (s.toks + 1) hx ⟨hi, hit', let ⟨o, ho, r⟩ := x.2.2; ⟨o, (hs'.2 l hne).trans ho, r⟩⟩ fun b o hb eo => hs'.extBut b o (fun h => hb (by simp [h])) eo
  done := fun s Q E x hQ => by
    have e : (items.size : Int) - 1 - (items.size : Int) = -1 := by omega
    have hit := x.2.1
    rw [e] at hit
    exact RT.next_rt_end hh hit fun h' he' => hQ h' s.toks fun b o hb eo => he' b o (fun h => hb (by simp [h])) eo
  self := fun _ _ _ _ x hQ => RT.iter_rt x.2.1 hQ
theorem slot_rt_hint : Slot "reversed" "__length_hint__" "reversed.__length_hint__" :=
  .of (owner := "reversed") (n := "__length_hint__") (by rw [typeLookup_type, builtinLookup_eq_fast]; kernel_rfl) (by decide +kernel) (by decide +kernel) (by decide +kernel)
    (by first | exact .inl (by decide +kernel) | exact .inr (by decide +kernel)) (by rw [isSubtype_type]; kernel_rfl)
theorem entry_rt_hint : entryFor table "reversed.__length_hint__" = some Builtin.«reversed.__length_hint__» := entryFor_of_tree (by kernel_rfl)
theorem args_rt_hint (a : Value) : argsOk "reversed.__length_hint__" ⟨[a], []⟩ := by
  unfold argsOk; rw [signature?_of (id := "reversed.__length_hint__") (n := ['_', '_', 't', 'n', 'i', 'h', '_', 'h', 't', 'g', 'n', 'e', 'l', '_', '_']) (o := ['d', 'e', 's', 'r', 'e', 'v', 'e', 'r']) (by kernel_rfl) RT.owner_rt]; kernel_rfl
section
variable {prog : Program} {w : World} {A : Around} {E : Value → Shared → Prop} {s : Shared}
theorem call_hint_rt {it t : Addr} {items : Array Value} {Q : Value → Shared → Prop} (hit : RT.IsRt s.heap it t ((items.size : Int) - 1)) (ht : IsTup s.heap t items) (hsz : items.size ≤ sizeLine)
    (h : ∀ u k, s.toks ≤ k → Q (.int (items.size : Nat) u) { s with toks := k }) : wpAny (model prog w) A (call (.builtin "reversed.__length_hint__") [.ref it]) Q E s := by
  obtain ⟨o, ho, hc, hd⟩ := id hit
  rw [sizeLine_eq] at hsz
  refine wpAny_call_entry slot_rt_hint hit.typeIs entry_rt_hint ?_ (args_rt_hint _)
  unfold Builtin.«reversed.__length_hint__»
  refine wpAny_bind (wpAny_of_eq (a := Value.ref it) rfl ?_)
  try dsimp only
  refine wpAny_bind (wpAny_field ho hd (x := .ref t) rfl ?_)
  try dsimp only
  rw [if_neg (show ¬ ((Value.ref t == Value.none) = true) from by simp)]
  try dsimp only
  refine wpAny_bind (len_tuple ht (by omega) ?_)
  refine wpAny_bind (wpAny_of_eq (a := some ((items.size : Nat) : Int)) rfl ?_)
  try dsimp only
  refine wpAny_bind (wpAny_field (s := { s with toks := s.toks + 1 + 1 }) ho hd (x := rawInt ((items.size : Int) - 1)) rfl ?_)
  try dsimp only
  have e1 : (items.size : Int) - 1 + 1 = (items.size : Nat) := by omega
  show wpAny _ _ (if ((items.size : Nat) : Int) < (items.size : Int) - 1 + 1 then _ else _) _ _ _
  rw [if_neg (by omega), e1]
  unfold retInt
  refine wpAny_bind (wpAny_mkInt ?_)
  exact wpAny_pure ⟨_, rfl, h _ _ (by show s.toks ≤ s.toks + 1 + 1 + 1; omega)⟩
end
section
variable {prog : Program} {w : World} {A : Around} {s : Shared} {R : Result → Shared → Prop}
theorem extend_rt (hh : A.handled = none) {I l : Addr} {items : Array Value} (hne : l ≠ I) (hz : items.size ≤ sizeLine) (hit : RT.IsRt s.heap I l ((items.size : Int) - 1)) (ht : IsTup s.heap l items) (S : Addr) (res : Value) (c₀ : Nat) (hSI : S ≠ I) (hSl : S ≠ l)
    (hS : s.heap.get? S = some { cls := .type "list", data := .seq #[] c₀ })
    (hR : ∀ s' acc' c', Moved [S, I] (fun a b => b = a) s s' → s'.heap.get? S = some { cls := .type "list", dict := none, data := .seq acc' c', slots := #[] } → ItemsOf (fun i v => items[items.size - 1 - i]? = some v) acc' items.size → R (.ok (.ret res)) s') :
    wpAny (model prog w) A.in1 (Builtin.List.listExtendWith (.ref S) (.ref I) res)
      (fun fin s' => match fin with | .done f => R (.ok f) s' | .again c' => c'.quiet = true ∧ codeAny (model prog w) A c' R s') (fun e s' => R (.error e) s') s := by
  have W := (walks_rt (prog := prog) (w := w) (A := A.in1) hh I l hne items hz).toS
  have hSf : S ∉ [I, l] := by simp [hSI, hSl]
  have e0 : ((items.size : Nat) : Int) - 1 - ((0 : Nat) : Int) = (items.size : Int) - 1 := by omega
  have hst : (fun (i : Nat) (s : Shared) => i ≤ items.size ∧ RT.IsRt s.heap I l ((items.size : Int) - 1 - (i : Int)) ∧ IsTup s.heap l items) 0 s := ⟨Nat.zero_le _, by rw [e0]; exact hit, ht⟩
  unfold Builtin.List.listExtendWith
  refine wpAny_bind (wpAny_typeOf hit.typeIs ?_)
  have h1 : Builtin.List.listSameRef (.ref S) (.ref I) = false := by simp [Builtin.List.listSameRef, hSI]
  have h2 : (Value.type "reversed" == Value.type "list") = false := by decide
  have h3 : (Value.type "reversed" == Value.type "tuple") = false := by decide
  simp only [h1, h2, h3, Bool.or_false, Bool.false_eq_true, if_false]
  refine wpAny_bind (W.self 0 _ _ _ hst ?_)
  refine wpAny_bind (wpAny_holding ?_)
  unfold Builtin.List.listLengthHint
  refine wpAny_bind (wpAny_specialOf hit.typeIs nolen_rt ?_)
  show wpAny _ A.in1 (specialOf (Value.ref I) (Str.ofString "__length_hint__") >>= _) _ _ _
  refine wpAny_bind (wpAny_specialOf hit.typeIs hint_rt ?_)
  generalize hid : ("reversed.__length_hint__" : String) = id0
  wp_delta
  rw [show splitId id0 = some ("reversed", "__length_hint__") from by subst hid; decide +kernel]
  subst hid
  refine wpAny_bind (wpAny_isInstance (b := true) hit.typeIs (by rw [isSubtype_type]; kernel_rfl) ?_)
  try dsimp only
  rw [if_neg (by decide)]
  rw [if_neg (by decide +kernel)]
  refine wpAny_bind (wpAny_rule ?_)
  refine wpAny_bind (wpAny_of_eq (slot_rt_hint.bind _) ?_)
  try dsimp only
  refine wpAny_bind (wpAny_attempt (call_hint_rt (items := items) hit ht hz fun u k hk => ?_))
  try dsimp only
  have hf : Builtin.List.listFitsIndex ((items.size : Nat) : Int) = true := by
    rw [sizeLine_eq] at hz
    unfold Builtin.List.listFitsIndex
    simp only [Bool.and_eq_true, decide_eq_true_eq]
    omega
  show wpAny _ A.in1 (asInt? (Value.int ((items.size : Nat) : Int) u) >>= _) _ _ _
  have hai : asInt? (Value.int ((items.size : Nat) : Int) u) = pure (some ((items.size : Nat) : Int)) := rfl
  rw [hai, pure_bind]
  try dsimp only
  have hng : ¬ (((items.size : Nat) : Int) < 0) := by omega
  rw [hf, if_neg (show ¬ ((!true) = true) from Bool.false_ne_true), if_neg hng, Int.toNat_natCast, notLongL hz, if_neg Bool.false_ne_true]
  refine wpAny_pure ?_
  have loop : ∀ (h' : Heap) (c' : Nat), (∀ b o, b ≠ S → s.heap.get? b = some o → h'.get? b = some o) → h'.get? S = some { cls := .type "list", data := .seq #[] c' } →
      codeAny (model prog w) A (.builtin "list.extend.loop" ⟨[.ref S, .ref I, res], []⟩) R { s with heap := h', toks := k } := by
    intro h' c' oth hS'
    refine codeAny_extend_loopS W hz _ hSf _ items.size 0 _ _ _ rfl (Nat.zero_le _) (W.frame 0 s h' k hst hk fun b hb o e => oth b o (fun z => hSf (z ▸ hb)) e) hS' (ItemsOf.nil _) fun s' acc' c'' hm hS'' hacc => ?_
    have m0 : Moved [S, I] (fun a b : Array GenState => b = a) s { s with heap := h', toks := k } := (Moved.refl (wr := [S, I]) (G := fun a b : Array GenState => b = a) fun _ => rfl).then_heap hk fun b o hb e => oth b o (fun z => hb (by rw [z]; exact List.mem_cons_self)) e
    exact hR s' acc' c'' (Moved.trans (fun _ _ _ h1 h2 => h2.trans h1) m0 hm) hS'' hacc
  by_cases h0 : items.size = 0
  · have hb : (((items.size : Nat) : Int) != 0) = false := by rw [h0]; rfl
    rw [hb]
    rw [if_neg (by decide +kernel)]
    exact wpAny_pure ⟨plainId_quiet F.plain_extend_loop _, loop s.heap c₀ (fun b o _ e => e) hS⟩
  · have hb : (((items.size : Nat) : Int) != 0) = true := by
      rw [bne_iff_ne]
      omega
    rw [hb, Bool.true_or, if_pos rfl]
    refine wpAny_bind (wpAny_rule ?_)
    refine wpAny_bind ?_
    show wpAny _ A.in1 (updateSeq S (·.push .none) >>= fun _ => updateSeq S (·.pop)) _ _ _
    refine wpAny_bind (wpAny_updateSeq (s := { s with toks := k }) (hz := Nat.zero_le _) (_hz' := Nat.le_add_left 1 _) hS rfl ?_)
    have hS₂ := Heap.get?_update_self (Obj.mapSeq (·.push Value.none)) hS rfl
    refine wpAny_updateSeq (hz := show 1 ≤ sizeLine by rw [sizeLine_eq]; decide) (_hz' := Nat.zero_le _) hS₂ rfl ?_
    have hS₃ := Heap.get?_update_self (Obj.mapSeq (·.pop)) hS₂ rfl
    exact wpAny_pure ⟨plainId_quiet F.plain_extend_loop _, loop _ _ (fun b o hb e => (Heap.get?_update_other _ _ (Ne.symm hb)).trans ((Heap.get?_update_other _ _ (Ne.symm hb)).trans e)) hS₃⟩
theorem list_init_rt (hh : A.handled = none) {I l : Addr} {items : Array Value} (hne : l ≠ I) (hz : items.size ≤ sizeLine) (hit : RT.IsRt s.heap I l ((items.size : Int) - 1)) (ht : IsTup s.heap l items) (S : Addr) (hSI : S ≠ I) (hSl : S ≠ l)
    (hS : s.heap.get? S = some { cls := .type "list", data := .seq #[] })
    (hR : ∀ s' acc' c', Moved [S, I] (fun a b => b = a) s s' → s'.heap.get? S = some { cls := .type "list", dict := none, data := .seq acc' c', slots := #[] } → ItemsOf (fun i v => items[items.size - 1 - i]? = some v) acc' items.size → R (.ok (.ret .none)) s') :
    wpAny (model prog w) A.in1 (Builtin.«list.__init__» ⟨[.ref S, .ref I], []⟩)
      (fun fin s' => match fin with | .done f => R (.ok f) s' | .again c' => c'.quiet = true ∧ codeAny (model prog w) A c' R s') (fun e s' => R (.error e) s') s := by
  show wpAny _ A.in1 (do let old ← Builtin.List.listItems (.ref S); Builtin.List.listUpdate (.ref S) (fun _ => #[]); letGo old.toList.reverse; Builtin.List.listExtendWith (.ref S) (.ref I) .none) _ _ s
  refine wpAny_bind ?_
  unfold Builtin.List.listItems
  refine wpAny_bind (wpAny_seqItems hS rfl (wpAny_pure ?_))
  show wpAny _ A.in1 (updateSeq S (fun _ => #[]) >>= fun _ => letGo (#[] : Array Value).toList.reverse >>= fun _ => Builtin.List.listExtendWith (.ref S) (.ref I) .none) _ _ s
  refine wpAny_bind (wpAny_updateSeq hS rfl ?_)
  have hS₂ := Heap.get?_update_self (Obj.mapSeq (fun _ => (#[] : Array Value))) hS rfl
  have oth : ∀ b o, b ≠ S → s.heap.get? b = some o → (s.heap.update S (Obj.mapSeq (fun _ => (#[] : Array Value)))).get? b = some o :=
    fun b o hb e => (Heap.get?_update_other _ _ (Ne.symm hb)).trans e
  refine wpAny_bind (wpAny_letGo ?_)
  refine extend_rt hh hne hz (s := { s with heap := s.heap.update S (Obj.mapSeq (fun _ => (#[] : Array Value))) }) (hit.at fun o e => oth I o (Ne.symm hSI) e) (let ⟨o, ho, r⟩ := ht; ⟨o, oth l o (Ne.symm hSl) ho, r⟩) S .none _ hSI hSl hS₂ fun s' acc' c' hm hS' hacc => ?_
  have m0 : Moved [S, I] (fun a b : Array GenState => b = a) s { s with heap := s.heap.update S (Obj.mapSeq (fun _ => (#[] : Array Value))) } := (Moved.refl (wr := [S, I]) (G := fun a b : Array GenState => b = a) fun _ => rfl).then_heap (Nat.le_refl _) fun b o hb e => oth b o (fun h => hb (by rw [h]; exact List.mem_cons_self)) e
  exact hR s' acc' c' (Moved.trans (fun _ _ _ h1 h2 => h2.trans h1) m0 hm) hS' hacc
end
section
variable {prog : Program} {w : World} {A : Around} {E : Value → Shared → Prop} {s : Shared}
theorem call_list_rt {Q : Value → Shared → Prop} (hh : A.handled = none) {I l : Addr} {items : Array Value} (hne : l ≠ I) (hz : items.size ≤ sizeLine) (hit : RT.IsRt s.heap I l ((items.size : Int) - 1)) (ht : IsTup s.heap l items)
    (hQ : ∀ (h' : Heap) (tk : Nat) (acc : Array Value) (c' : Nat), (∀ b o, b ≠ I → s.heap.get? b = some o → h'.get? b = some o) → ItemsOf (fun i v => items[items.size - 1 - i]? = some v) acc items.size → h'.get? s.heap.objs.size = some { cls := .type "list", dict := none, data := .seq acc c', slots := #[] } →
      Q (.ref s.heap.objs.size) { s with heap := h', toks := tk }) :
    wpAny (model prog w) A (call (.type "list") [.ref I]) Q E s := by
  obtain ⟨oi, hoi, _⟩ := id hit
  obtain ⟨ol, hol, _⟩ := id ht
  have hSI : s.heap.objs.size ≠ I := Nat.ne_of_gt (Heap.lt_size hoi)
  have hSl : s.heap.objs.size ≠ l := Nat.ne_of_gt (Heap.lt_size hol)
  refine callType_codes (Q₁ := fun obj s₁ => obj = .ref s.heap.objs.size ∧ s₁ = { s with heap := s.heap.push { cls := .type "list", data := .seq #[] } }) F.called_list (F.typeCall_list_1 _) F.entry_list_init
    (code_list_new _ ⟨rfl, rfl⟩) fun obj s₁ h₁ => ?_
  obtain ⟨rfl, rfl⟩ := h₁
  have hS : (s.heap.push { cls := .type "list", data := .seq #[] }).get? s.heap.objs.size = some { cls := .type "list", data := .seq #[] } := Heap.get?_push_size _ rfl
  refine ⟨⟨_, hS, rfl⟩, F.args_list_init_2 _ _, list_init_rt (A := A.in1) hh hne hz (s := { s with heap := s.heap.push { cls := .type "list", data := .seq #[] } }) (hit.at fun o e => Heap.get?_push_of_some _ e) (let ⟨o, ho, r⟩ := ht; ⟨o, Heap.get?_push_of_some _ ho, r⟩) _ hSI hSl hS fun s' acc' c' hm hS' hacc => ?_⟩
  refine ⟨rfl, ?_⟩
  rw [Moved.eq_with hm]
  refine hQ s'.heap s'.toks acc' c' (fun b o hb e => hm.heap b o (fun hmem => ?_) (Heap.get?_push_of_some _ e)) hacc hS'
  rcases List.mem_cons.mp hmem with e' | hmem
  · exact absurd (Heap.lt_size e) (by rw [e']; exact Nat.lt_irrefl _)
  · exact hb (List.mem_singleton.mp hmem)
end
section
variable {X : Cx}
/-- list(reversed(x)), x a tuple: a new list -/
def tLstRev (K : PySem.W.Frag) (te : TE) : TE := fun σ H Q => te σ H fun v H1 => ∃ (a : Addr) (xs : List V), v = .ref a ∧ SqT K H1 a xs ∧ ∀ q, H1 q = none → Q (.ref q) (upd H1 q (.lst xs.reverse))
theorem pe_lstRev (K : PySem.W.Frag) {e : Expr} {te : TE} {p p2 pos pos2 : Pos} (hc : X.calm = true) (hg : Gl X "list") (hm : X.mg "list" = none) (hg2 : Gl X "reversed") (hm2 : X.mg "reversed" = none) (he : PE X e te) (hK : X.K = K := by rfl)
    (hs : starEach [e] X.env = (false, eval e X.env) :: starEach [] X.env := by rfl)
    (hs2 : starEach [.Call (.Name "reversed" p2) [e] [] pos2] X.env = (false, eval (.Call (.Name "reversed" p2) [e] [] pos2) X.env) :: starEach [] X.env := by rfl) :
    PE X (.Call (.Name "list" p) [.Call (.Name "reversed" p2) [e] [] pos2] [] pos) (tLstRev K te) := by
  subst hK
  refine ⟨fun pins s σ H Q I h => ?_⟩
  refine Call_ (ld_blt I hg hm boot_list (PyProof.Rows.callWith_type1 (args_cons (Call_ (ld_blt I hg2 hm2 PyProof.Rows.boot_reversed (PyProof.Rows.callWith_type1 (args_cons (thn (he.run pins s σ H _ I h) fun u s1 ⟨v, H1, I1, r1, q1⟩ => args_nil ?_) hs) hs rfl))) hs2) hs2 rfl))
  obtain ⟨a, xs, ev, hq, q⟩ := q1
  subst ev
  obtain rfl : u = Value.ref a := r1
  obtain ⟨its, rv, p', hz⟩ := I1.tuple hq
  have hl := rv.length
  have hn := line63
  refine RT.call_reversed_tup p' (fun A E Q k => len_tuple p' (by simp only [List.size_toArray] <;> omega) k) (args_nil ?_)
  have k0 : ∀ b o, s1.heap.get? b = some o → (s1.heap.push (RT.rtObj a ((its.toArray.size : Int) - 1))).get? b = some o := fun b o e => Heap.get?_push_of_some _ e
  have I2 : Inv X pins σ H1 { s1 with heap := s1.heap.push (RT.rtObj a ((its.toArray.size : Int) - 1)), toks := s1.toks + 1 + 1 } := I1.kept (t' := s1.toks + 1 + 1) k0
  obtain ⟨f0, f1, f2, f3, f4, f5⟩ := I1.fpOk (H' := H1) (b := s1.heap.objs.size) (Nat.le_refl _) (I1.hok.fresh (Nat.le_refl _))
  obtain ⟨ol, hol, _⟩ := id p'
  have hne : a ≠ s1.heap.objs.size := Nat.ne_of_lt (Heap.lt_size hol)
  have hn : its.toArray.size ≤ sizeLine := by rw [List.size_toArray, ← rv.length]; exact hz
  refine call_list_rt (s := { s1 with heap := s1.heap.push (RT.rtObj a ((its.toArray.size : Int) - 1)), toks := s1.toks + 1 + 1 }) (I1.ok.hd hc) hne hn ⟨_, Heap.get?_push_size _ rfl, rfl, rfl⟩ (let ⟨o, ho, r⟩ := p'; ⟨o, Heap.get?_push_of_some _ ho, r⟩) fun h' tk acc c' hk hi hS => ?_
  have hS0 : (s1.heap.push (RT.rtObj a ((its.toArray.size : Int) - 1))).objs.size = s1.heap.objs.size + 1 := by simp [Heap.push]
  have I3 : Inv X pins σ (upd H1 (s1.heap.push (RT.rtObj a ((its.toArray.size : Int) - 1))).objs.size (.lst xs.reverse)) { s1 with heap := (s1.heap.push (RT.rtObj a ((its.toArray.size : Int) - 1))).push { cls := .type "list", dict := none, data := .seq acc c', slots := #[] }, toks := s1.toks + 1 + 1 } :=
    I2.laid (t' := s1.toks + 1 + 1) (fun b o e => Heap.get?_push_of_some _ e) (Nat.le_refl _) (show ObjOk X.prog X.w _ _ _ (.lst xs.reverse) from ⟨by rw [List.length_reverse]; exact hz, acc.toList, c', RT.vals_rev rv hi, by rw [Array.toArray_toList]; exact Heap.get?_push_size _ rfl⟩)
  have I4 : Inv X pins σ (upd H1 (s1.heap.push (RT.rtObj a ((its.toArray.size : Int) - 1))).objs.size (.lst xs.reverse)) { s1 with heap := h', toks := tk } := by
    refine Inv.turned (s := { s1 with heap := (s1.heap.push (RT.rtObj a ((its.toArray.size : Int) - 1))).push { cls := .type "list", dict := none, data := .seq acc c', slots := #[] }, toks := s1.toks + 1 + 1 }) (h' := h') (t' := tk) (it := s1.heap.objs.size) I3 (fun b o hb e => ?_) ?_ f1 f3 f4 f5
    · by_cases hbS : b = (s1.heap.push (RT.rtObj a ((its.toArray.size : Int) - 1))).objs.size
      · subst hbS
        have e2 := Heap.get?_push_size (h := s1.heap.push (RT.rtObj a ((its.toArray.size : Int) - 1))) (o := { cls := .type "list", dict := none, data := .seq acc c', slots := #[] }) rfl
        rw [e2] at e
        cases e
        exact hS
      · refine hk b o hb ?_
        rw [← Heap.get?_push_ne _ _ _ hbS]
        exact e
    · rw [upd_ne (by rw [hS0]; exact Nat.ne_of_lt (Nat.lt_succ_self _))]
      exact f0
  exact ⟨.ref _, _, I4, rfl, q _ (by
    have := I2.hok.fresh (a := (s1.heap.push (RT.rtObj a ((its.toArray.size : Int) - 1))).objs.size) (Nat.le_refl _)
    exact this)⟩
end
end Qx

/-! Lists of one's own that change. -/
namespace Dx
open PySem PySem.Spec PyProof.Rows L2 Evl Ex
section
variable {K : PySem.W.Frag}
/-! ### two lists of one's own that change -/
structure M2 (B0 H0 B H : Hp) (na wa : Addr) (xs ys : List V) : Prop where
  st : Step (fun _ => False) B0 H0 B H
  n0 : H0 na = none
  w0 : H0 wa = none
  ne : na ≠ wa
  bn : B na = none
  bw : B wa = none
  hn : H na = some (.lst xs)
  hw : H wa = some (.lst ys)
section
variable {B0 H0 B H B5 H5 : Hp} {na wa : Addr} {xs ys : List V}
theorem M2.ok (m : M2 B0 H0 B H na wa xs ys) : Ok Fm.pure B H := Ok.any m.st.bh
theorem M2.pass (m : M2 B0 H0 B H na wa xs ys) (s : Step (fun _ => False) B H B5 H5) : M2 B0 H0 B5 H5 na wa xs ys :=
  ⟨m.st.trans s, m.n0, m.w0, m.ne, s.sep na m.bn ⟨_, m.hn, trivial⟩, s.sep wa m.bw ⟨_, m.hw, trivial⟩, s.ex _ _ m.hn, s.ex _ _ m.hw⟩
theorem step_set {fa : Addr} {o : HO} (s : Step (fun _ => False) B0 H0 B H) (h0 : H0 fa = none) (hb : B fa = none) : Step (fun _ => False) B0 H0 B (upd H fa o) :=
  ⟨s.bb, fun a u h => by rw [upd_ne (ne_of_none h hb)]; exact s.bh _ _ h, fun a u n h => by rw [upd_ne (ne_of_none h h0)]; exact s.keep a u n h, s.sep, fun a n => by
    have ha : a ≠ fa := fun z => n (z ▸ h0)
    rw [upd_ne ha]
    exact s.live a n, fun a n => (s.liv a n).upd fun z => n.ne (z ▸ h0)⟩
theorem M2.setN (m : M2 B0 H0 B H na wa xs ys) (zs : List V) : M2 B0 H0 B (upd H na (.lst zs)) na wa zs ys := ⟨step_set m.st m.n0 m.bn, m.n0, m.w0, m.ne, m.bn, m.bw, upd_same, by rw [upd_ne (Ne.symm m.ne)]; exact m.hw⟩
theorem M2.setW (m : M2 B0 H0 B H na wa xs ys) (zs : List V) : M2 B0 H0 B (upd H wa (.lst zs)) na wa xs zs := ⟨step_set m.st m.w0 m.bw, m.n0, m.w0, m.ne, m.bn, m.bw, by rw [upd_ne m.ne]; exact m.hn, upd_same⟩
/-- na as data at the end -/
theorem ddAll_snoc {Hx : Hp} : ∀ {ds : List PyData} {vs : List V} {d : PyData}, DdAll K Hx vs (ds ++ [d]) → ∃ vs' v, vs = vs' ++ [v] ∧ DdAll K Hx vs' ds ∧ Dd K Hx v d
  | [], _, _, h => by
    obtain ⟨v, rfl, hv⟩ := arg1 h
    exact ⟨[], v, rfl, .nil, hv⟩
  | x :: ds, _, _, h => by
    cases h with
    | cons a t =>
      obtain ⟨vs', v, rfl, h1, h2⟩ := ddAll_snoc t
      exact ⟨_ :: vs', v, rfl, .cons a h1, h2⟩
theorem qm_asg {σ : L2.St} {te : TE} {P0 : PV} {i : Nat} {tz : TS} {D : Ends} (m : M2 B0 H0 B H na wa xs ys) (h : EV Fm.pure te σ B P0) (k : ∀ v B5 H5, M2 B0 H0 B5 H5 na wa xs ys → Ex B B5 → P0 v B5 → tz D (σ.set i (some v)) H5) : tSeq (tAsg te (gName i)) tz D σ H := h B (Ex.refl B) H m.ok _ fun v B5 H5 s5 _ p => k v B5 H5 (m.pass s5) s5.bb p
theorem qm_appN {σ : L2.St} {te : TE} {d : PyData} {i : Nat} {tz : TS} {D : Ends} (m : M2 B0 H0 B H na wa xs ys) (hi : σ[i]? = some (some (.ref na))) (h : ED Fm.pure K te σ B d) (hl : xs.length < 16777216) (k : ∀ v B5 H5, M2 B0 H0 B5 H5 na wa (xs ++ [v]) ys → Ex B B5 → Dd K B5 v d → tz D σ H5) : tSeq (tDrop (tBM K "list" rAppend (tVar i) (tCons te tNil))) tz D σ H :=
  ⟨.ref na, hi, .inl ⟨rfl, _, sq_of m.hn⟩, h B (Ex.refl B) H m.ok _ fun v B5 H5 s5 _ p => ⟨na, xs, v, rfl, rfl, (m.pass s5).hn, by rw [sizeLine_eq]; exact hl, k v B5 _ ((m.pass s5).setN _) s5.bb p⟩⟩
theorem sm_appW {σ : L2.St} {te : TE} {d : PyData} {i : Nat} {D : Ends} (m : M2 B0 H0 B H na wa xs ys) (hi : σ[i]? = some (some (.ref wa))) (h : ED Fm.pure K te σ B d) (hl : ys.length < 16777216) (k : ∀ v B5 H5, M2 B0 H0 B5 H5 na wa xs (ys ++ [v]) → Ex B B5 → Dd K B5 v d → D.nx σ H5) : tDrop (tBM K "list" rAppend (tVar i) (tCons te tNil)) D σ H :=
  ⟨.ref wa, hi, .inl ⟨rfl, _, sq_of m.hw⟩, h B (Ex.refl B) H m.ok _ fun v B5 H5 s5 _ p => ⟨wa, ys, v, rfl, rfl, (m.pass s5).hw, by rw [sizeLine_eq]; exact hl, k v B5 _ ((m.pass s5).setW _) s5.bb p⟩⟩
theorem M2.data (m : M2 B0 H0 B H na wa xs ys) {ds : List PyData} (hd : DdAll K B xs ds) (hl : ds.length ≤ 16777216) : Step (fun _ => False) B0 H0 (upd B na (.lst xs)) H ∧ Dd K (upd B na (.lst xs)) (.ref na) (.list ds) := by
  refine ⟨⟨m.st.bb.trans (Ex.new m.bn), fun a o h => ?_, m.st.keep, fun a h n => ?_, m.st.live, m.st.liv⟩, .lst upd_same (by rw [hd.len, sizeLine_eq]; exact hl) (hd.up (Ex.new m.bn))⟩
  · by_cases e : a = na
    · subst e
      rw [upd_same] at h
      rw [m.hn]
      exact h
    · rw [upd_ne e] at h
      exact m.st.bh a o h
  · have e : a ≠ na := fun z => n.ne (z ▸ m.n0)
    rw [upd_ne e]
    exact m.st.sep a h n
end
section
variable {B0 H0 B H B5 H5 : Hp} {na wa : Addr} {xs ys : List V}
structure S1 (B0 H0 B H : Hp) (na : Addr) (xs : List V) : Prop where
  st : Step (fun _ => False) B0 H0 B H
  n0 : H0 na = none
  bn : B na = none
  hn : H na = some (.lst xs)
section
variable {B0 H0 B H B5 H5 : Hp} {na wa : Addr} {xs ys : List V}
theorem S1.ok (m : S1 B0 H0 B H na xs) : Ok Fm.pure B H := Ok.any m.st.bh
theorem S1.pass (m : S1 B0 H0 B H na xs) (s : Step (fun _ => False) B H B5 H5) : S1 B0 H0 B5 H5 na xs := ⟨m.st.trans s, m.n0, s.sep na m.bn ⟨_, m.hn, trivial⟩, s.ex _ _ m.hn⟩
theorem S1.set (m : S1 B0 H0 B H na xs) (zs : List V) : S1 B0 H0 B (upd H na (.lst zs)) na zs := ⟨step_set m.st m.n0 m.bn, m.n0, m.bn, upd_same⟩
theorem S1.new (m : S1 B0 H0 B H na xs) (h : H wa = none) : M2 B0 H0 B (upd H wa (.lst [])) na wa xs [] := by
  have w0 : H0 wa = none := by
    cases hh : H0 wa with
    | none => rfl
    | some o => exact absurd h (m.st.live wa (by rw [hh]; exact fun z => nomatch z))
  have ne : na ≠ wa := fun z => by rw [← z, m.hn] at h; cases h
  exact ⟨step_set m.st w0 (fresh_back m.st.bh h), m.n0, w0, ne, m.bn, fresh_back m.st.bh h, by rw [upd_ne ne]; exact m.hn, upd_same⟩
theorem M2.shut (m : M2 B0 H0 B H na wa xs ys) {ds : List PyData} (hd : DdAll K B ys ds) (hl : ds.length ≤ 16777216) : S1 B0 H0 (upd B wa (.lst ys)) H na xs ∧ Dd K (upd B wa (.lst ys)) (.ref wa) (.list ds) ∧ Ex B (upd B wa (.lst ys)) := by
  have st : Step (fun _ => False) B0 H0 (upd B wa (.lst ys)) H := ⟨m.st.bb.trans (Ex.new m.bw), fun a o h => by
    by_cases e : a = wa
    · subst e
      rw [upd_same] at h
      rw [m.hw]
      exact h
    · rw [upd_ne e] at h
      exact m.st.bh a o h, m.st.keep, fun a h n => by
    have e : a ≠ wa := fun z => n.ne (z ▸ m.w0)
    rw [upd_ne e]
    exact m.st.sep a h n, m.st.live, m.st.liv⟩
  exact ⟨⟨st, m.n0, by rw [upd_ne m.ne]; exact m.bn, m.hn⟩, .lst upd_same (by rw [hd.len, sizeLine_eq]; exact hl) (hd.up (Ex.new m.bw)), Ex.new m.bw⟩
theorem S1.data (m : S1 B0 H0 B H na xs) {ds : List PyData} (hd : DdAll K B xs ds) (hl : ds.length ≤ 16777216) : Step (fun _ => False) B0 H0 (upd B na (.lst xs)) H ∧ Dd K (upd B na (.lst xs)) (.ref na) (.list ds) := by
  refine ⟨⟨m.st.bb.trans (Ex.new m.bn), fun a o h => ?_, m.st.keep, fun a h n => ?_, m.st.live, m.st.liv⟩, .lst upd_same (by rw [hd.len, sizeLine_eq]; exact hl) (hd.up (Ex.new m.bn))⟩
  · by_cases e : a = na
    · subst e
      rw [upd_same] at h
      rw [m.hn]
      exact h
    · rw [upd_ne e] at h
      exact m.st.bh a o h
  · have e : a ≠ na := fun z => n.ne (z ▸ m.n0)
    rw [upd_ne e]
    exact m.st.sep a h n
theorem qs_asg {σ : L2.St} {te : TE} {P0 : PV} {i : Nat} {tz : TS} {D : Ends} (m : S1 B0 H0 B H na xs) (h : EV Fm.pure te σ B P0) (k : ∀ v B5 H5, S1 B0 H0 B5 H5 na xs → Ex B B5 → P0 v B5 → tz D (σ.set i (some v)) H5) : tSeq (tAsg te (gName i)) tz D σ H := h B (Ex.refl B) H m.ok _ fun v B5 H5 s5 _ p => k v B5 H5 (m.pass s5) s5.bb p
theorem ss_app {σ : L2.St} {te : TE} {d : PyData} {i : Nat} {D : Ends} (m : S1 B0 H0 B H na xs) (hi : σ[i]? = some (some (.ref na))) (h : ED Fm.pure K te σ B d) (hl : xs.length < 16777216) (k : ∀ v B5 H5, S1 B0 H0 B5 H5 na (xs ++ [v]) → Ex B B5 → Dd K B5 v d → D.nx σ H5) : tDrop (tBM K "list" rAppend (tVar i) (tCons te tNil)) D σ H :=
  ⟨.ref na, hi, .inl ⟨rfl, _, sq_of m.hn⟩, h B (Ex.refl B) H m.ok _ fun v B5 H5 s5 _ p => ⟨na, xs, v, rfl, rfl, (m.pass s5).hn, by rw [sizeLine_eq]; exact hl, k v B5 _ ((m.pass s5).set _) s5.bb p⟩⟩
end

theorem ddAll_strs {H : Hp} : ∀ {S : List Str}, (∀ s ∈ S, s.length ≤ 100) → DdAll K H (S.map V.str) (S.map .str)
  | [], _ => .nil
  | s :: S, h => .cons (.str s (by rw [sizeLine_eq]; have := h s List.mem_cons_self; omega)) (ddAll_strs fun x hx => h x (List.mem_cons_of_mem _ hx))
theorem strs_dd {H : Hp} : ∀ {S : List Str} {vs : List V}, DdAll K H vs (S.map .str) → vs = S.map V.str
  | [], _, h => by cases h; rfl
  | s :: S, _, h => by
    cases h with
    | cons a t =>
      rw [(dd_str a).1, strs_dd t]
      rfl
section
variable {B0 H0 B H B5 H5 : Hp} {na wa : Addr} {xs ys : List V} {σ : L2.St} {te : TE} {tas : TA} {ds : List PyData} {d : PyData} {i : Nat} {tz : TS} {D : Ends}
/-- x = [] -/
theorem qs_new (k0 : Ok Fm.pure B H) (k : ∀ na, S1 B H B (upd H na (.lst [])) na [] → tz D (σ.set i (some (.ref na))) (upd H na (.lst []))) : tSeq (tAsg (tLst tNil) (gName i)) tz D σ H :=
  ⟨Nat.zero_le _, fun na hna => k na ⟨step_set (Step.refl k0.e) hna (fresh_back k0.e hna), hna, fresh_back k0.e hna, upd_same⟩⟩
theorem S1.newL (m : S1 B0 H0 B H na xs) (zs : List V) (h : H wa = none) : M2 B0 H0 B (upd H wa (.lst zs)) na wa xs zs := by
  have w0 : H0 wa = none := by
    cases hh : H0 wa with
    | none => rfl
    | some o => exact absurd h (m.st.live wa (by rw [hh]; exact fun z => nomatch z))
  have ne : na ≠ wa := fun z => by rw [← z, m.hn] at h; cases h
  exact ⟨step_set m.st w0 (fresh_back m.st.bh h), m.n0, w0, ne, m.bn, fresh_back m.st.bh h, by rw [upd_ne ne]; exact m.hn, upd_same⟩
/-- x = [..] -/
theorem qs_lst (m : S1 B0 H0 B H na xs) (h : EDs Fm.pure K tas σ B ds) (hl : ds.length ≤ 16777216) (k : ∀ wa vs B5 H5, M2 B0 H0 B5 H5 na wa xs vs → DdAll K B5 vs ds → Ex B B5 → tz D (σ.set i (some (.ref wa))) H5) : tSeq (tAsg (tLst tas) (gName i)) tz D σ H :=
  h B (Ex.refl B) H m.ok _ fun vs B5 H5 s5 _ p => ⟨by rw [DdAll.len p, sizeLine_eq]; exact hl, fun wa hwa => k wa vs B5 _ ((m.pass s5).newL vs hwa) p s5.bb⟩
/-- x = waiting.pop() -/
theorem qm_pop {y : V} (m : M2 B0 H0 B H na wa xs (ys ++ [y])) {j : Nat} (hi : σ[j]? = some (some (.ref wa))) (k : M2 B0 H0 B (upd H wa (.lst ys)) na wa xs ys → tz D (σ.set i (some y)) (upd H wa (.lst ys))) : tSeq (tAsg (tBM0 K "list" rPop (tVar j)) (gName i)) tz D σ H := by
  refine ⟨.ref wa, hi, .inl ⟨rfl, _, sq_of m.hw⟩, wa, _, y, rfl, rfl, m.hw, by rw [List.length_append]; simp, ?_⟩
  rw [List.dropLast_concat]
  exact k (m.setW ys)
/-- waiting.extend(a tuple) -/
theorem sm_extT (m : M2 B0 H0 B H na wa xs ys) (hi : σ[i]? = some (some (.ref wa))) (h : ED Fm.pure K te σ B (.tuple ds)) (hl : ys.length + ds.length ≤ 16777216) (k : ∀ vs B5 H5, M2 B0 H0 B5 H5 na wa xs (ys ++ vs) → Ex B B5 → DdAll K B5 vs ds → D.nx σ H5) : tDrop (tBM K "list" (Qx.rExtendT K) (tVar i) (tCons te tNil)) D σ H :=
  ⟨.ref wa, hi, .inl ⟨rfl, _, sq_of m.hw⟩, h B (Ex.refl B) H m.ok _ fun v B5 H5 s5 _ p => by
    obtain ⟨b, zs, rfl, h1, _, g⟩ := dd_tup p
    have m5 := m.pass s5
    exact ⟨wa, b, ys, zs, rfl, rfl, m5.hw, ex_t m5.st.bh h1, by rw [g.len, sizeLine_eq]; exact hl, k zs B5 _ (m5.setW _) s5.bb g⟩⟩
/-- waiting.extend(a list) -/
theorem sm_extL (m : M2 B0 H0 B H na wa xs ys) (hi : σ[i]? = some (some (.ref wa))) (h : ED Fm.pure K te σ B (.list ds)) (hl : ys.length + ds.length ≤ 16777216) (k : ∀ vs B5 H5, M2 B0 H0 B5 H5 na wa xs (ys ++ vs) → Ex B B5 → DdAll K B5 vs ds → D.nx σ H5) : tDrop (tBM K "list" rExtend (tVar i) (tCons te tNil)) D σ H :=
  ⟨.ref wa, hi, .inl ⟨rfl, _, sq_of m.hw⟩, h B (Ex.refl B) H m.ok _ fun v B5 H5 s5 _ p => by
    obtain ⟨b, zs, rfl, h1, _, g⟩ := dd_lst p
    have m5 := m.pass s5
    exact ⟨wa, b, ys, zs, rfl, rfl, m5.hw, m5.st.bh _ _ h1, by rw [g.len, sizeLine_eq]; exact hl, k zs B5 _ (m5.setW _) s5.bb g⟩⟩
end
section
variable {F : Fm} {B : Hp} {σ : L2.St} {te : TE} {ds : List PyData} {S : List Str} {k : Str}
theorem ed_lstRev (h : ED F K te σ B (.tuple ds)) : ED F K (Qx.tLstRev K te) σ B (.list ds.reverse) := fun B1 e0 H j Q q => h B1 e0 H j _ fun v B2 H2 s2 j2 g => by
  obtain ⟨a, xs, rfl, h1, l1, g1⟩ := dd_tup g
  refine ⟨a, xs, rfl, ex_t j2.e h1, fun p hp => q _ _ _ (s2.trans (Step.alloc j2.e hp)) (j2.alloc hp) (.lst upd_same (by rw [List.length_reverse]; exact l1) (g1.rev.up (Ex.new (fresh_back j2.e hp))))⟩
theorem ed_cntS (h : ED F K te σ B (.list (S.map .str))) : ED F K (tBM K "list" (Qx.rCntS K) te (tCons (tC (.str k)) tNil)) σ B (.int (S.count k : Nat)) := fun B1 e0 H j Q q => h B1 e0 H j _ fun v B2 H2 s2 j2 g => by
  obtain ⟨a, xs, rfl, h1, l1, g1⟩ := dd_lst g
  obtain rfl := strs_dd g1
  have h2 := j2.e _ _ h1
  exact ⟨.inl ⟨rfl, _, sq_of h2⟩, a, S, k, rfl, rfl, sq_of h2, q _ B2 H2 s2 j2 (.int _)⟩
theorem rc_lstT' {F : Fm} {B : Hp} {ds : List PyData} : RDc F K (fun xs H Q => ∃ p ys, xs = [.ref p] ∧ (SqL K H p ys ∨ SqT K H p ys) ∧ ∀ l, H l = none → Q (.ref l) (upd H l (.lst ys))) B [.tuple ds] (.list ds) := fun B1 e0 H us jj hu Q q => by
  obtain ⟨v, rfl, hv⟩ := arg1 hu
  obtain ⟨a, xs, rfl, h1, l1, g1⟩ := dd_tup hv
  exact ⟨a, xs, rfl, .inr (ex_t jj.e h1), fun l hl => q _ _ _ (Step.alloc jj.e hl) (jj.alloc hl) (.lst upd_same l1 (g1.up (Ex.new (fresh_back jj.e hl))))⟩
end
end
section
variable {B0 H0 B H B5 H5 : Hp} {na : Addr} {xs : List V} {σ : L2.St} {te tl : TE} {t : TT} {tu tw tz tb : TS} {b : Bool} {P : PV} {i j : Nat} {D : Ends} {ds : List PyData}
theorem ss_if (m : S1 B0 H0 B H na xs) (h : ETt Fm.pure t σ B b) (h1 : b = true → ∀ B5 H5, S1 B0 H0 B5 H5 na xs → Ex B B5 → tu D σ H5) (h2 : b = false → ∀ B5 H5, S1 B0 H0 B5 H5 na xs → Ex B B5 → tw D σ H5) : tIfS t tu tw D σ H := h B (Ex.refl B) H m.ok _ fun B5 H5 s5 _ => by
  cases b with
  | true =>
    show tu D σ H5
    exact h1 rfl B5 H5 (m.pass s5) s5.bb
  | false =>
    show tw D σ H5
    exact h2 rfl B5 H5 (m.pass s5) s5.bb
theorem qs_when (m : S1 B0 H0 B H na xs) (h : ETt Fm.pure t σ B b) (h1 : b = true → ∀ B5 H5, S1 B0 H0 B5 H5 na xs → Ex B B5 → tu { D with nx := tz D } σ H5) (h2 : b = false → ∀ B5 H5, S1 B0 H0 B5 H5 na xs → Ex B B5 → tz D σ H5) : tSeq (tIfS t tu tNext) tz D σ H := ss_if (D := { D with nx := tz D }) m h h1 h2
theorem ss_ret (m : S1 B0 H0 B H na xs) (h : EV Fm.pure te σ B P) (k : ∀ v B5 H5, S1 B0 H0 B5 H5 na xs → Ex B B5 → P v B5 → D.rt v H5) : tRet te D σ H := h B (Ex.refl B) H m.ok _ fun v B5 H5 s5 _ p => k v B5 H5 (m.pass s5) s5.bb p
theorem qs_pop {y : V} {ys : List V} (m : S1 B0 H0 B H na (ys ++ [y])) (hi : σ[j]? = some (some (.ref na))) (k : S1 B0 H0 B (upd H na (.lst ys)) na ys → tz D (σ.set i (some y)) (upd H na (.lst ys))) : tSeq (tAsg (tBM0 K "list" rPop (tVar j)) (gName i)) tz D σ H := by
  refine ⟨.ref na, hi, .inl ⟨rfl, _, sq_of m.hn⟩, na, _, y, rfl, rfl, m.hn, by rw [List.length_append]; simp, ?_⟩
  rw [List.dropLast_concat]
  exact k (m.set ys)
/-- x = x + a list: another list -/
theorem ss_add (m : S1 B0 H0 B H na xs) (hi : σ[i]? = some (some (.ref na))) (h : ED Fm.pure K te σ B (.list ds)) (hl : xs.length + ds.length ≤ 16777216) (k : ∀ na' us B5 H5, S1 B0 H0 B5 H5 na' (xs ++ us) → Ex B B5 → DdAll K B5 us ds → D.nx (σ.set i (some (.ref na'))) H5) : tAsg (tOp (rAddA K) (tVar i) te) (gName i) D σ H := by
  refine ⟨.ref na, hi, h B (Ex.refl B) H m.ok _ fun v B5 H5 s5 j5 g => ?_⟩
  obtain ⟨b, us, rfl, h1, _, g1⟩ := dd_lst g
  have m5 := m.pass s5
  refine .inr (.inr (.inl ⟨na, b, xs, us, rfl, rfl, m5.hn, m5.st.bh _ _ h1, by rw [g1.len, sizeLine_eq]; exact hl, fun p hp => ?_⟩))
  have p0 : H0 p = none := by
    cases hh : H0 p with
    | none => rfl
    | some o => exact absurd hp (m5.st.live p (by rw [hh]; exact fun z => nomatch z))
  exact k p us B5 _ ⟨step_set m5.st p0 (fresh_back m5.st.bh hp), p0, fresh_back m5.st.bh hp, upd_same⟩ s5.bb g1
/-- for x, y in pairs -/
theorem q_forP (ok : Ok Fm.pure B H) (h : EV Fm.pure tl σ B (SqV K (DDs K ds))) (hp : ∀ d ∈ ds, ∃ x y, d = .tuple [x, y]) (J : Nat → L2.St → Hp → Hp → Prop) (hj : ∀ i σ B H, J i σ B H → Ex B H) (h0 : ∀ B1 H1, Step (fun _ => False) B H B1 H1 → J 0 σ B1 H1)
    (hs : ∀ Bb n x y u v σ' B1 H1, ds[n]? = some (.tuple [x, y]) → Ex B Bb → Ex Bb B1 → Dd K B1 u x → Dd K B1 v y → J n σ' B1 H1 → tb { D with nx := fun σ2 H2 => ∃ B2, Ex Bb B2 ∧ J (n + 1) σ2 B2 H2, ct := fun σ2 H2 => ∃ B2, Ex Bb B2 ∧ J (n + 1) σ2 B2 H2, bk := tz D } ((σ'.set i (some u)).set j (some v)) H1)
    (hd : ∀ σ' B1 H1, Ex B B1 → J ds.length σ' B1 H1 → tz D σ' H1) : tSeq (tFor (iSeq K tl) (g2 K i j) tb) tz D σ H := by
  refine h B (Ex.refl B) H ok _ fun v B1 H1 s1 j1 pv => ?_
  obtain ⟨l, vs, rfl, hl, ps⟩ := pv
  have ps' : DdAll K B1 vs ds := ps
  have turn : ∀ n x σ' H', vs[n]? = some x → (∃ B2, Ex B1 B2 ∧ J n σ' B2 H') → g2 K i j x σ' H' fun σ2 H2 => tb { D with nx := fun σ2 H2 => ∃ B2, Ex B1 B2 ∧ J (n + 1) σ2 B2 H2, ct := fun σ2 H2 => ∃ B2, Ex B1 B2 ∧ J (n + 1) σ2 B2 H2, bk := tz D } σ2 H2 := by
    rintro n x σ' H' hx ⟨B2, e2, q⟩
    obtain ⟨d, hd, hdv⟩ := ps'.getv hx
    obtain ⟨a, c, rfl⟩ := hp d (List.mem_of_getElem? hd)
    obtain ⟨t, us, rfl, h1, _, hus⟩ := dd_tup hdv
    obtain ⟨u, w, rfl, hu, hw⟩ := arg2 hus
    refine ⟨t, _, rfl, ex_t (e2.trans (hj _ _ _ _ q)) h1, rfl, u, _, rfl, w, _, rfl, rfl, ?_⟩
    exact hs B1 n a c u w σ' B2 H' hd s1.bb e2 (hu.up e2) (hw.up e2) q
  have fin : ∀ σ' H', (∃ B2, Ex B1 B2 ∧ J vs.length σ' B2 H') → tz D σ' H' := fun σ' H' ⟨B2, e2, q⟩ => hd σ' B2 H' (s1.bb.trans e2) (by rw [← ps'.len]; exact q)
  refine ⟨l, rfl, ?_⟩
  rcases hl with hl | hl
  · refine .inl ⟨⟨vs, ex_l j1.e hl⟩, for_list (K := K) (xs := vs) (fun n σ' H' => ∃ B2, Ex B1 B2 ∧ J n σ' B2 H') ⟨B1, Ex.refl B1, h0 B1 H1 s1⟩ (fun n σ' H' _ ⟨B2, e, q⟩ => ex_l (hj _ _ _ _ q) (ex_l e hl)) turn fin⟩
  · refine .inr ⟨⟨vs, ex_t j1.e hl⟩, for_tup (K := K) (xs := vs) (fun n σ' H' => ∃ B2, Ex B1 B2 ∧ J n σ' B2 H') ⟨B1, Ex.refl B1, h0 B1 H1 s1⟩ (fun n σ' H' _ ⟨B2, e, q⟩ => ex_t (hj _ _ _ _ q) (ex_t e hl)) turn fin⟩
end
end
end Dx

/-! sorted of tuples of ints, any number of them -/
namespace Vx
open PySem PySem.Spec PyProof.Rows
section
variable {prog : Program} {w : World} {A : Around} {s : Shared}
theorem lex_kat {Q : Bool → Shared → Prop} : ∀ {xs ys : List Value} {ns ms : List Int}, IntsAre xs ns → IntsAre ys ms → ns.length = ms.length → ∀ i : Nat, Q (HT.lexLt ns ms) s → PySem.W.KatLex prog w A true false Q (xs.zip ys) i s
  | _, _, _, _, .nil, .nil, _, i, h => PySem.W.kat_nil h
  | _, _, _, _, .nil, .cons _ _ _, hl, i, h => by cases hl
  | _, _, _, _, .cons _ _ _, .nil, hl, i, h => by cases hl
  | _, _, _, _, .cons n t r, .cons m u r', hl, i, h => by
    rw [HT.lexLt_cons] at h
    show PySem.W.KatLex prog w A true false Q ((Value.int n t, Value.int m u) :: _) i s
    refine PySem.W.kat_cons (SeqAt.EqAt.int_int n t m u prog w _ _ ?_)
    refine PySem.W.kat_go (fun e1 => ?_) (fun e1 => ?_)
    · have ex : n = m := by simpa using e1
      rw [if_pos ex] at h
      exact PySem.W.kat_yes (lex_kat r r' (by simpa using hl) (i + 1) h)
    · have ex : ¬ n = m := by simpa using e1
      rw [if_neg ex] at h
      cases i with
      | zero => exact PySem.W.kat_no (PyProof.Rows.oneLt_int h)
      | succ i => exact PySem.W.kat_no (PySem.W.kat_one _ _ (PyProof.Rows.lt_int h))
def TupsN (h : Heap) (d : Nat) (k : Value → List Int) (vs : List Value) : Prop := ∀ v ∈ vs, TS.TupInts h v (k v) ∧ (k v).length = d
theorem firsts {h : Heap} {d : Nat} {k : Value → List Int} (hd : 1 ≤ d) : ∀ {vs : List Value}, TupsN h d k vs → ∃ fs : List Value, PySem.W.KatTups h vs fs ∧ fs.length = vs.length ∧ ∀ f ∈ fs, ∃ n t, f = Value.int n t
  | [], _ => ⟨[], PySem.W.KatTups.nil, rfl, fun f hf => by simp at hf⟩
  | v :: vs, x => by
    obtain ⟨fs, h1, h2, h3⟩ := firsts hd (vs := vs) fun u hu => x u (List.mem_cons_of_mem _ hu)
    obtain ⟨⟨a, xs, e, ⟨o, ho, hc, n, hdt⟩, i⟩, hn⟩ := x v (List.mem_cons_self ..)
    obtain ⟨y, ys, ey⟩ : ∃ y ys, xs.toList = y :: ys := by
      cases q : xs.toList with
      | nil =>
        rw [q] at i
        have l := i.length
        rw [List.length_nil, hn] at l
        omega
      | cons y ys => exact ⟨y, ys, rfl⟩
    obtain ⟨m, t, hy⟩ := i.all y (by rw [ey]; exact List.mem_cons_self ..)
    subst e
    refine ⟨y :: fs, PySem.W.KatTups.cons ho hc hdt ?_ h1, by rw [List.length_cons, List.length_cons, h2], fun f hf => ?_⟩
    · rw [← Array.getElem?_toList, ey]
      rfl
    · rcases List.mem_cons.mp hf with rfl | hf
      · exact ⟨m, t, hy⟩
      · exact h3 f hf
theorem tups_cmp {vs : List Value} {d : Nat} {k : Value → List Int} (hp : TupsN s.heap d k vs) : SrtO.Cmp prog w A s (tuples' true) (fun p => p.1 ∈ vs) (SrtO.lt2 fun v u => HT.lexLt (k v) (k u)) := by
  intro p q hm hm'
  obtain ⟨⟨a, xs, e, ⟨o, ho, hc, n, hdt⟩, i⟩, hn⟩ := hp _ hm
  obtain ⟨⟨a', xs', e', ⟨o', ho', hc', n', hdt'⟩, i'⟩, hn'⟩ := hp _ hm'
  show wpAny (model prog w) A (keyLt' (tuples' true) p.1 q.1) (fun r s' => s' = s ∧ r = HT.lexLt (k p.1) (k q.1)) (fun _ _ => False) s
  have l1 := i.length
  have l2 := i'.length
  generalize k p.1 = ns at i hn l1 ⊢
  generalize k q.1 = ms at i' hn' l2 ⊢
  rw [e, e']
  refine PySem.W.kat_lt ho hdt ho' hdt' ?_
  have hz : decide (xs.size < xs'.size) = false := decide_eq_false (by rw [← Array.length_toList, ← Array.length_toList]; omega)
  rw [hz]
  exact lex_kat i i' (by rw [hn, hn']) 0 ⟨rfl, rfl⟩
theorem swo_lex (k : Value → List Int) : SrtO.Swo fun v u => HT.lexLt (k v) (k u) := NtL.swo_lexL k
theorem tups_sortable {a : Addr} {vs : List Value} {d : Nat} {k : Value → List Int} (hd : 1 ≤ d) (h0 : 0 < vs.length) (hp : TupsN s.heap d k vs) (ha : ∀ o, s.heap.get? a = some o → o.cls ≠ .type "tuple") : SrtO.SortableO prog w A s a vs fun v u => HT.lexLt (k v) (k u) := by
  intro h' keep
  have hp' : TupsN h' d k vs := fun v hm => ⟨(hp v hm).1.keeps fun b o e c => keep b o (fun z => by subst z; exact ha o e c) e, (hp v hm).2⟩
  obtain ⟨fs, h1, h2, h3⟩ := firsts hd hp'
  refine ⟨tuples' true, fun Q E hq => ?_, tups_cmp hp'⟩
  refine PySem.W.kat_kind (T := .type "int") h1 (by omega) (fun f hm => ?_) (by rfl) ?_
  · obtain ⟨x, t, rfl⟩ := h3 f hm
    exact PySem.W.Looks.now
  · have e : (Value.type "int" != Value.type "tuple") = true := by first | decide +kernel | rfl | decide
    rw [e]
    exact hq
end
end Vx
namespace L2
open PySem PySem.Spec PyProof.Rows
/-- sorted(xs), xs a list of tuples of d ints each, any number of them -/
def rSortTI (K : PySem.W.Frag) (d : Nat) : List V → Hp → VK → Prop := fun vs H Q => ∃ (a : Addr) (xs : List V) (k : V → List Int), vs = [V.ref a] ∧ SqL K H a xs ∧ (∀ x ∈ xs, TupI K H x (k x) ∧ (k x).length = d) ∧
  ∀ (ys : List V) (p : Addr), ys.Perm xs → ys.Pairwise (fun x y => HT.lexLt (k y) (k x) = false) → H p = none → Q (.ref p) (upd H p (.lst ys))
section
variable {X : Cx}
theorem cr_sortTI {d : Nat} (K : PySem.W.Frag) (hd : 1 ≤ d) (hK : X.K = K := by rfl) : CallR X (.builtin "sorted") (rSortTI K d) := by
  subst hK
  intro pins s σ H vs us Q I r h
  obtain ⟨a, xs, k, rfl, hs, hx, q⟩ := h
  obtain ⟨its, rv, hl, hz⟩ := I.list hs
  rw [Vals.ref1 r]
  obtain ⟨e1, e2⟩ := bkV_refs rv fun x m => by
    obtain ⟨⟨t, e, _⟩, _⟩ := hx x m
    exact ⟨t, e⟩
  have tn : Vx.TupsN s.heap d (fun u => k (bkV u)) its := fun v hv => by
    obtain ⟨t, rfl⟩ := e2 v hv
    have hm : V.ref t ∈ xs := by
      rw [e1]
      exact List.mem_map.mpr ⟨_, hv, rfl⟩
    obtain ⟨⟨t', e, ht⟩, hn⟩ := hx _ hm
    cases e
    exact ⟨tupI_raw I ht, hn⟩
  refine SrtO.sorted_ord (Vx.swo_lex fun u => k (bkV u)) hl.isList (by rw [← rv.length]; exact hz) (fun h2 h₁ a' ho keep => Vx.tups_sortable (s := { s with heap := h₁ }) hd (by omega) (fun v hv => ⟨(tn v hv).1.keeps fun b o e c => (keep b o e).2, (tn v hv).2⟩) fun o e c => ?_) fun out h1 h2 => ?_
  · have e' : some o = some (seqObj "list" its.toArray 0) := e.symm.trans ho
    cases e'
    exact absurd (Value.type.inj c) (by decide)
  · obtain ⟨ep, he'⟩ := PyProof.Rows.sortedAll_at s.heap its out.toArray
    have h3 : ∀ u ∈ out, ∃ a, u = Value.ref a := fun u hu => e2 u (h2.perm.mem_iff.mp hu)
    have hp : (out.map bkV).Perm xs := by
      rw [e1]
      exact h2.perm.map bkV
    have hlen : (out.map bkV).length ≤ sizeLine := by
      rw [hp.length_eq]
      exact hz
    refine ⟨.ref _, upd H (s.heap.objs.size + 1) (.lst (out.map bkV)), I.laid (t' := s.toks) (fun _ _ => PyProof.Rows.sortedAll_old) (Nat.le_succ _) ⟨hlen, out, ep, bkV_vals h3, he'⟩, rfl, q _ _ hp ?_ (I.hok.fresh (Nat.le_succ _))⟩
    rw [List.pairwise_map]
    exact h1.imp fun {u v} huv => huv
/-- sorted(d), d a dict whose keys are tuples of n ints each, any number of them -/
def rSortDT (n : Nat) : List V → Hp → VK → Prop := fun vs H Q => ∃ (a : Addr) (kvs : List (List Key × V)) (ks : List (List Int)), vs = [V.ref a] ∧ H a = some (.dT kvs) ∧ kvs.map (·.1) = ks.map (fun k => k.map Sum.inl) ∧ (∀ k ∈ ks, k.length = n) ∧
  ∀ (ys : List V) (zs : List (List Int)) (p : Addr), zs.Perm ks → zs.Pairwise (fun x y => HT.lexLt y x = false) → Paired (fun y z => ∃ t, y = V.ref t ∧ H t = some (.tup (z.map V.int))) ys zs → H p = none → Q (.ref p) (upd H p (.lst ys))
theorem kV_inl : ∀ k : List Int, (k.map (Sum.inl : Int → Key)).map kV = k.map V.int
  | [] => rfl
  | n :: k => by
    show V.int n :: _ = V.int n :: _
    rw [← kV_inl k]
theorem isKeys_ints {H : Hp} : ∀ {kvs : List (List Key × V)} {bs : List Addr} {ks : List (List Int)}, IsKeys H kvs bs → kvs.map (·.1) = ks.map (fun k => k.map Sum.inl) → Paired (fun b k => H b = some (.tup (k.map V.int))) bs ks
  | _, _, [], .nil, _ => .nil
  | _, _, k :: ks, .nil, e => by cases e
  | _, _, [], .cons _ _, e => by cases e
  | (k', v) :: kvs, b :: bs, k :: ks, .cons h t, e => by
    have e1 : k' = k.map Sum.inl := (List.cons.inj e).1
    have e2 := (List.cons.inj e).2
    refine .cons ?_ (isKeys_ints t e2)
    have h' : H b = some (.tup (k'.map kV)) := h
    rw [e1, kV_inl] at h'
    exact h'
theorem prd_mem {α β : Type} {F : α → β → Prop} : ∀ {l : List α} {m : List β}, Paired F l m → ∀ x ∈ l, ∃ y ∈ m, F x y
  | _, _, .nil, x, h => nomatch h
  | _, _, .cons h t, x, hx => by
    rcases List.mem_cons.mp hx with rfl | hx
    · exact ⟨_, List.mem_cons_self, h⟩
    · obtain ⟨y, hy, hF⟩ := prd_mem t x hx
      exact ⟨y, List.mem_cons_of_mem _ hy, hF⟩
/-- the ints of the tuple at b -/
def tupOf (H : Hp) (b : Addr) : List Int := match H b with
  | some (.tup xs) => xs.filterMap fun v => match v with | .int i => some i | _ => none
  | _ => []
theorem tupOf_is {H : Hp} {b : Addr} {k : List Int} (h : H b = some (.tup (k.map V.int))) : tupOf H b = k := by
  unfold tupOf
  rw [h]
  show (k.map V.int).filterMap _ = k
  rw [List.filterMap_map]
  exact List.filterMap_some
theorem prd_keys {H : Hp} : ∀ {bs : List Addr} {ks : List (List Int)}, Paired (fun b k => H b = some (.tup (k.map V.int))) bs ks → bs.map (tupOf H) = ks
  | _, _, .nil => rfl
  | _, _, .cons h t => by rw [List.map_cons, tupOf_is h, prd_keys t]
theorem keys_prd {H : Hp} : ∀ {cs : List Addr}, (∀ b ∈ cs, H b = some (.tup ((tupOf H b).map V.int))) → Paired (fun y z => ∃ t, y = V.ref t ∧ H t = some (.tup (z.map V.int))) (cs.map V.ref) (cs.map (tupOf H))
  | [], _ => .nil
  | c :: cs, h => .cons ⟨c, rfl, h c List.mem_cons_self⟩ (keys_prd fun b hb => h b (List.mem_cons_of_mem _ hb))
theorem cr_sortDT {n : Nat} (hn1 : 1 ≤ n) (hc : X.calm = true) : CallR X (.builtin "sorted") (rSortDT n) := by
  intro pins s σ H xs us Q I r h
  obtain ⟨d, kvs, ks, rfl, hd, hks, hlen, q⟩ := h
  obtain ⟨u, rfl, rx⟩ := r.one
  cases rx
  obtain ⟨z, hs, kx, pr, o, es, ep, ho, hx, hdt, he, hn⟩ := (show ObjOk X.prog X.w H s.heap d (.dT kvs) from I.hok d _ hd)
  have l1 : es.size = kx.length := size_of_entries he
  have l2 : kvs.length = kx.length := Paired.length pr
  refine Calls.call_function_entry PyProof.Rows.kind_sorted PyProof.Rows.plain_sorted PyProof.Rows.entry_sorted (PyProof.Rows.args_sorted1 _) ?_
  unfold Builtin.«sorted»
  refine wpAny_bind (m := checkCount "sorted" 1 1 _) (wpAny_pure ?_)
  refine wpAny_bind (PySem.W.kdu_collect (A := X.A.in1) (kdl_raw hs hx hdt) (I.ok.hd hc) ho (by omega) fun h' tk acc kp it => ?_)
  have ea : acc.toList = (kx.map fun x => x.2.1).map Value.ref := by
    have hl : acc.toList.length = kx.length := by rw [Array.length_toList, it.1]; exact l1
    rw [List.map_map]
    apply List.ext_getElem?
    intro j
    rw [List.getElem?_map]
    cases hj : acc.toList[j]? with
    | none =>
      have h1 := List.getElem?_eq_none_iff.mp hj
      rw [List.getElem?_eq_none (by omega)]
      all_goals rfl
    | some v =>
      obtain ⟨en, hen, hv⟩ := it.2 j v (by rw [← Array.getElem?_toList]; exact hj)
      have qe := entry_at he j
      rw [hen] at qe
      cases hb : kx[j]? with
      | none =>
        rw [hb] at qe
        exact nomatch (show some en = none from qe)
      | some b =>
        rw [hb] at qe
        have e2 : en = entryOfKey (tupleKind (mixKind X.prog X.w)) b := Option.some.inj qe
        rw [hv, e2]
        all_goals rfl
  have pk := isKeys_ints (isKeys_of pr) hks
  have hmap := prd_keys pk
  have I1 : Inv X pins σ H { s with heap := h', toks := tk } := I.kept kp
  have hz : acc.toList.length ≤ sizeLine := by rw [ea, List.length_map, List.length_map]; omega
  refine wpAny_bind (wpAny_newList ?_ hz)
  have hoL : (h'.push (seqObj "list" acc.toList.toArray 0)).get? h'.objs.size = some (seqObj "list" acc.toList.toArray 0) := Heap.get?_push_size _ rfl
  show wpAny _ _ _ _ _ { s with heap := h'.push (seqObj "list" acc.toList.toArray 0), toks := tk }
  have hb0 : ∀ b ∈ kx.map (fun x => x.2.1), H b = some (.tup ((tupOf H b).map V.int)) ∧ (tupOf H b).length = n := fun b hb => by
    obtain ⟨k, hk, h1⟩ := prd_mem pk b hb
    rw [tupOf_is h1]
    exact ⟨h1, hlen k hk⟩
  have tn : Vx.TupsN h' n (fun u => match u with | .ref b => tupOf H b | _ => []) acc.toList := fun v hv => by
    rw [ea] at hv
    obtain ⟨b, hb, rfl⟩ := List.mem_map.mp hv
    exact ⟨tupI_raw I1 (.inl (.inl (hb0 b hb).1)), (hb0 b hb).2⟩
  refine wpAny_bind (wpAny_holding (wpAny_call_entry PyProof.Rows.slot_list_sort ⟨_, hoL, rfl⟩ PyProof.Rows.entry_list_sort
    (SrtO.list_sort_ord (s := { s with heap := h'.push (seqObj "list" acc.toList.toArray 0), toks := tk }) (Vx.swo_lex _) hoL hz (fun h2 => Vx.tups_sortable hn1 (by omega) (fun v hv => ⟨(tn v hv).1.keeps fun b o e c => Heap.get?_push_of_some _ e, (tn v hv).2⟩) fun o e c => ?_) fun out g1 g2 => ⟨_, rfl, ?_⟩) (PyProof.Rows.args_list_sort _)))
  · have e' : some o = some (seqObj "list" acc.toList.toArray 0) := e.symm.trans hoL
    cases e'
    exact absurd (Value.type.inj c) (by decide)
  · obtain ⟨e', he'⟩ := PyProof.Rows.sortedHeap_at (vs := acc.toList) (out := out.toArray) hoL
    have g2p := g2.perm
    have hperm : (out.map adO).Perm (kx.map fun x => x.2.1) := by
      have p1 := g2p.map adO
      rw [ea, ad_map] at p1
      exact p1
    have eo : out = (out.map adO).map Value.ref := ref_map fun u hm => by
      have hm' : u ∈ acc.toList := g2p.mem_iff.mp hm
      rw [ea] at hm'
      obtain ⟨t, _, e⟩ := List.mem_map.mp hm'
      exact ⟨t, e.symm⟩
    have hl2 : ((out.map adO).map V.ref).length ≤ sizeLine := by
      rw [List.length_map, hperm.length_eq, List.length_map]
      omega
    have rvo : Vals ((out.map adO).map V.ref) out := by
      have z := of_nts (out.map adO)
      rw [← eo] at z
      exact z
    refine wpAny_pure ⟨_, rfl, .ref h'.objs.size, upd H h'.objs.size (.lst ((out.map adO).map V.ref)), I1.laid (t' := tk) (fun b u e => ?_) (Nat.le_refl _)
      (show ObjOk X.prog X.w _ _ _ (.lst ((out.map adO).map V.ref)) from ⟨hl2, out, e', rvo, he'⟩), rfl, q _ ((out.map adO).map (tupOf H)) _ ?_ ?_ (keys_prd fun b hb => (hb0 b (hperm.mem_iff.mp hb)).1) (I1.hok.fresh (Nat.le_refl _))⟩
    · have hb : b < h'.objs.size := Heap.lt_size e
      rw [PyProof.Rows.sortedHeap_old (Nat.ne_of_lt hb) (by rw [size_push']; exact Nat.lt_succ_of_lt hb)]
      exact Heap.get?_push_of_some _ e
    · rw [← hmap]
      exact hperm.map _
    · rw [List.pairwise_map, List.pairwise_map]
      refine (List.Pairwise.imp_of_mem (fun {u v} hu hv huv => ?_) g1)
      have q1 : ∀ x ∈ out, (match x with | .ref b => tupOf H b | _ => []) = tupOf H (adO x) := fun x hx => by
        have hm' : x ∈ acc.toList := g2p.mem_iff.mp hx
        rw [ea] at hm'
        obtain ⟨t, _, e⟩ := List.mem_map.mp hm'
        rw [← e]
        rfl
      have h1 := q1 u hu
      have h2 := q1 v hv
      rw [← h1, ← h2]
      exact huv
end
end L2

/-! dicts from tuples of ints to ints -/
namespace Dx
open PySem PySem.Spec PyProof.Rows L2 Evl
abbrev kI (k : List Int) : List Key := k.map Sum.inl
theorem kI_inj : ∀ {a b : List Int}, kI a = kI b → a = b
  | [], [], _ => rfl
  | [], _ :: _, h => nomatch h
  | _ :: _, [], h => nomatch h
  | x :: a, y :: b, h => by
    have h1 := (List.cons.inj h).1
    have h2 := (List.cons.inj h).2
    rw [Sum.inl.inj h1, kI_inj h2]
abbrev Mp := List (List Int × Int)
def toK (m : Mp) : List (List Key × V) := m.map fun p => (kI p.1, V.int p.2)
def lkI : Mp → List Int → Option Int
  | [], _ => none
  | p :: m, k => if p.1 = k then some p.2 else lkI m k
def ptI : Mp → List Int → Int → Mp
  | [], k, v => [(k, v)]
  | p :: m, k, v => if p.1 = k then (p.1, v) :: m else p :: ptI m k v
theorem lk_toK (k : List Int) : ∀ m : Mp, valV (toK m) (kI k) = (lkI m k).map V.int
  | [] => rfl
  | p :: m => by
    show valV ((kI p.1, V.int p.2) :: toK m) (kI k) = _
    unfold lkI
    by_cases h : p.1 = k
    · rw [if_pos h, valV_pos (by rw [h])]
      rfl
    · rw [if_neg h, valV_neg (fun z => h (kI_inj z)), lk_toK k m]
theorem lkI_some_mem {k : List Int} {v : Int} : ∀ {m : Mp}, lkI m k = some v → (k, v) ∈ m
  | [], h => nomatch h
  | p :: m, h => by
    unfold lkI at h
    by_cases e : p.1 = k
    · rw [if_pos e] at h
      cases h
      subst e
      exact List.mem_cons_self
    · rw [if_neg e] at h
      exact List.mem_cons_of_mem _ (lkI_some_mem h)
theorem lkI_none {k : List Int} : ∀ {m : Mp}, lkI m k = none ↔ ∀ p ∈ m, p.1 ≠ k
  | [] => ⟨fun _ p hp => (nomatch hp), fun _ => rfl⟩
  | p :: m => by
    unfold lkI
    by_cases e : p.1 = k
    · rw [if_pos e]
      exact ⟨fun h => (nomatch h), fun h => absurd e (h p List.mem_cons_self)⟩
    · rw [if_neg e, lkI_none]
      exact ⟨fun h q hq => by
        rcases List.mem_cons.mp hq with z | z
        · rw [z]
          exact e
        · exact h q z, fun h q hq => h q (List.mem_cons_of_mem _ hq)⟩
theorem lk_pt (k j : List Int) (v : Int) : ∀ m : Mp, lkI (ptI m k v) j = if j = k then some v else lkI m j
  | [] => by
    show (if k = j then some v else none) = _
    by_cases h : j = k
    · rw [if_pos h, if_pos h.symm]
    · rw [if_neg h, if_neg fun z => h z.symm]
      rfl
  | p :: m => by
    unfold ptI
    by_cases e : p.1 = k
    · rw [if_pos e]
      show (if p.1 = j then some v else lkI m j) = if j = k then some v else (if p.1 = j then some p.2 else lkI m j)
      by_cases h : j = k
      · rw [if_pos h, if_pos (e.trans h.symm)]
      · rw [if_neg h, if_neg fun z => h (z.symm.trans e), if_neg fun z => h (z.symm.trans e)]
    · rw [if_neg e]
      show (if p.1 = j then some p.2 else lkI (ptI m k v) j) = if j = k then some v else (if p.1 = j then some p.2 else lkI m j)
      by_cases h : p.1 = j
      · rw [if_pos h, if_pos h, if_neg fun z => e (h.trans z)]
      · rw [if_neg h, if_neg h, lk_pt k j v m]
/-- keys stand once -/
def Nd (m : Mp) : Prop := (m.map (·.1)).Nodup
theorem pt_keys (k : List Int) (v : Int) : ∀ m : Mp, (ptI m k v).map (·.1) = if (lkI m k).isSome = true then m.map (·.1) else m.map (·.1) ++ [k]
  | [] => rfl
  | p :: m => by
    unfold ptI lkI
    by_cases e : p.1 = k
    · rw [if_pos e, if_pos e]
      rfl
    · rw [if_neg e, if_neg e, List.map_cons, pt_keys k v m]
      split <;> rfl
theorem put_toK {m : Mp} (hn : Nd m) (k : List Int) (v : Int) : putK (toK m) (kI k) (.int v) = toK (ptI m k v) := by
  unfold putK
  rw [valV_any, lk_toK, Option.isSome_map]
  induction m with
  | nil => rfl
  | cons p m ih =>
    have hn' : p.1 ∉ m.map (·.1) ∧ Nd m := List.nodup_cons.mp hn
    have ih := ih hn'.2
    unfold lkI ptI
    by_cases e : p.1 = k
    · rw [if_pos e, if_pos e, if_pos (show (some p.2).isSome = true from rfl)]
      show (fun kv : List Key × V => if kv.1 = kI k then (kv.1, V.int v) else kv) (kI p.1, V.int p.2) :: (toK m).map _ = (kI p.1, V.int v) :: toK m
      congr 1
      · show (if kI p.1 = kI k then (kI p.1, V.int v) else (kI p.1, V.int p.2)) = _
        rw [if_pos (by rw [e])]
      · have hid : ∀ q ∈ toK m, (if q.1 = kI k then (q.1, V.int v) else q) = q := fun q hq => by
          obtain ⟨q', hq', rfl⟩ := List.mem_map.mp hq
          rw [if_neg]
          intro z
          exact hn'.1 (List.mem_map.mpr ⟨q', hq', (kI_inj z).trans e.symm⟩)
        rw [List.map_congr_left hid, List.map_id']
    · rw [if_neg e, if_neg e]
      by_cases hs : (lkI m k).isSome = true
      · rw [if_pos hs] at ih ⊢
        show (if kI p.1 = kI k then (kI p.1, V.int v) else (kI p.1, V.int p.2)) :: (toK m).map _ = (kI p.1, V.int p.2) :: toK (ptI m k v)
        rw [if_neg fun z => e (kI_inj z), ih]
      · rw [if_neg hs] at ih ⊢
        show (kI p.1, V.int p.2) :: (toK m ++ _) = (kI p.1, V.int p.2) :: toK (ptI m k v)
        rw [ih]
theorem pt_nd {m : Mp} (hn : Nd m) (k : List Int) (v : Int) : Nd (ptI m k v) := by
  unfold Nd
  rw [pt_keys]
  split
  · exact hn
  · rename_i h
    have hnone : lkI m k = none := by
      cases hh : lkI m k with
      | none => rfl
      | some x => rw [hh] at h; exact absurd rfl h
    refine List.nodup_append.mpr ⟨hn, (List.nodup_cons.mpr ⟨List.not_mem_nil, List.nodup_nil⟩), fun a ha b hb => ?_⟩
    rw [List.mem_singleton.mp hb]
    obtain ⟨p, hp, rfl⟩ := List.mem_map.mp ha
    exact lkI_none.mp hnone p hp
/-! ### values -/
/-- a key: the tuple of these ints itself stands there -/
def KeyV (k : List Int) : PV := fun v B => ∃ a, v = .ref a ∧ B a = some (.tup (k.map V.int))
/-- a dict that stands -/
def DicV (m : Mp) : PV := fun v B => ∃ a, v = .ref a ∧ B a = some (.dT (toK m))
theorem upc_key {k : List Int} : Upc (KeyV k) := fun _ _ _ e ⟨a, h, g⟩ => ⟨a, h, e _ _ g⟩
theorem upc_dic {m : Mp} : Upc (DicV m) := fun _ _ _ e ⟨a, h, g⟩ => ⟨a, h, e _ _ g⟩
theorem kV_kI : ∀ k : List Int, (kI k).map kV = k.map V.int := L2.kV_inl
theorem dget {H : Hp} {a b : Addr} {m : Mp} {k : List Int} (h : H a = some (.dT (toK m))) (g : H b = some (.tup (k.map V.int))) : DGet H a (.ref b) ((lkI m k).map V.int) := by
  rw [← lk_toK]
  exact DGet.t h (by rw [kV_kI]; exact g)
section
variable {F : Fm} {σ : L2.St} {B : Hp} {td ty : TE} {m : Mp} {k : List Int} {d : Int}
theorem ev_dget2 (hd : EV F td σ B (DicV m)) (hk : EV F ty σ B (KeyV k)) : EV F (tDGet2 td ty (tC (.int d))) σ B (fun v _ => v = .int ((lkI m k).getD d)) := fun B1 e1 H j Q q =>
  hd B1 e1 H j _ fun v B2 H2 s2 j2 ⟨a, ha, g⟩ => ⟨a, ha, .inr ⟨_, .inl (j2.e _ _ g)⟩, hk B2 (e1.trans s2.bb) H2 j2 _ fun u B3 H3 s3 j3 ⟨b, hb, g3⟩ => by
    refine ⟨_, by rw [hb]; exact dget (j3.e _ _ (s3.bb _ _ g)) (j3.e _ _ g3), ?_⟩
    refine q _ B3 H3 (s2.trans s3) j3 ?_
    cases lkI m k <;> rfl⟩
theorem ev_din (hd : EV F td σ B (DicV m)) (hk : EV F ty σ B (KeyV k)) : EV F (tDIn ty td) σ B (fun v _ => v = .bl (lkI m k).isSome) := fun B1 e1 H j Q q =>
  hk B1 e1 H j _ fun u B2 H2 s2 j2 ⟨b, hb, g⟩ => hd B2 (e1.trans s2.bb) H2 j2 _ fun v B3 H3 s3 j3 ⟨a, ha, g3⟩ => by
    refine ⟨a, _, ha, by rw [hb]; exact dget (j3.e _ _ g3) (j3.e _ _ (s3.bb _ _ g)), ?_⟩
    rw [Option.isSome_map]
    exact q _ B3 H3 (s2.trans s3) j3 rfl
theorem ev_dnin (hd : EV F td σ B (DicV m)) (hk : EV F ty σ B (KeyV k)) : EV F (tDNotIn ty td) σ B (fun v _ => v = .bl (!(lkI m k).isSome)) := fun B1 e1 H j Q q =>
  hk B1 e1 H j _ fun u B2 H2 s2 j2 ⟨b, hb, g⟩ => hd B2 (e1.trans s2.bb) H2 j2 _ fun v B3 H3 s3 j3 ⟨a, ha, g3⟩ => by
    refine ⟨a, _, ha, by rw [hb]; exact dget (j3.e _ _ g3) (j3.e _ _ (s3.bb _ _ g)), ?_⟩
    rw [Option.isSome_map]
    exact q _ B3 H3 (s2.trans s3) j3 rfl
theorem ev_dget (hd : EV F td σ B (DicV m)) (hk : EV F ty σ B (KeyV k)) {n : Int} (hn : lkI m k = some n) : EV F (tDGet td ty) σ B (fun v _ => v = .int n) := fun B1 e1 H j Q q =>
  hd B1 e1 H j _ fun v B2 H2 s2 j2 ⟨a, ha, g⟩ => hk B2 (e1.trans s2.bb) H2 j2 _ fun u B3 H3 s3 j3 ⟨b, hb, g3⟩ => by
    have h := dget (j3.e _ _ (s3.bb _ _ g)) (j3.e _ _ g3)
    rw [hn] at h
    exact ⟨a, .int n, ha, by rw [hb]; exact h, q _ B3 H3 (s2.trans s3) j3 rfl⟩
end
/-- the ints of a tuple that is data: the tuple itself, where the module's tuples hold no ints -/
def noInts (K : PySem.W.Frag) : Bool := K.all fun p => match p.2.data with
  | .seq its _ => its.toList.all fun v => match v with | .int _ _ => false | _ => true
  | _ => true
theorem lookup_mem {K : PySem.W.Frag} {a : Addr} {o : Obj} : K.lookup a = some o → (a, o) ∈ K := by
  induction K with
  | nil => intro h; cases h
  | cons p r ih =>
    obtain ⟨b, x⟩ := p
    intro h
    rw [List.lookup_cons] at h
    split at h
    · rename_i e
      cases h
      rw [beq_iff_eq.mp e]
      exact List.mem_cons_self
    · exact List.mem_cons_of_mem _ (ih h)
theorem ddAll_ints {K : PySem.W.Frag} {H : Hp} : ∀ {k : List Int} {vs : List V}, DdAll K H vs (k.map .int) → vs = k.map V.int
  | [], _, h => by cases h; rfl
  | n :: k, _, h => by
    cases h with
    | cons a t => rw [dd_int a, ddAll_ints t]; rfl
theorem key_of {K : PySem.W.Frag} (hK : noInts K = true) {B : Hp} {v : V} {k : List Int} (hne : k ≠ []) (h : Dd K B v (.tuple (k.map .int))) : KeyV k v B := by
  obtain ⟨a, xs, rfl, h1, _, h3⟩ := dd_tupA h
  obtain rfl := ddAll_ints h3
  rcases h1 with h1 | ⟨o, its, n, hl, hc, hd, hz, hv⟩
  · exact ⟨a, rfl, h1⟩
  · exfalso
    have hm := List.all_eq_true.mp hK _ (lookup_mem hl)
    simp only [hd] at hm
    cases k with
    | nil => exact hne rfl
    | cons n k =>
      rw [List.map_cons] at hv
      generalize its.toList = l at hv hm
      cases hv with
      | @cons _ u _ us hr ht =>
        obtain ⟨t, rfl⟩ : ∃ t, u = Value.int n t := hr
        simp at hm
end Dx

/-! a dict of one's own that grows -/
namespace Dx
open PySem PySem.Spec PyProof.Rows L2 Evl
structure D1 (B0 H0 B H : Hp) (na : Addr) (m : Mp) : Prop where
  st : Step (fun _ => False) B0 H0 B H
  n0 : H0 na = none
  bn : B na = none
  hn : H na = some (.dT (toK m))
section
variable {B0 H0 B H B5 H5 : Hp} {na : Addr} {m : Mp} {σ : L2.St} {te td ty tv : TE} {t : TT} {tu tw tz : TS} {D : Ends} {i : Nat} {P : PV} {b : Bool} {n : Int} {k : List Int}
theorem D1.ok (d : D1 B0 H0 B H na m) : Ok Fm.pure B H := Ok.any d.st.bh
theorem D1.pass (d : D1 B0 H0 B H na m) (s : Step (fun _ => False) B H B5 H5) : D1 B0 H0 B5 H5 na m := ⟨d.st.trans s, d.n0, s.sep na d.bn ⟨_, d.hn, trivial⟩, s.ex _ _ d.hn⟩
theorem D1.set (d : D1 B0 H0 B H na m) (m' : Mp) : D1 B0 H0 B (upd H na (.dT (toK m'))) na m' := ⟨step_set d.st d.n0 d.bn, d.n0, d.bn, upd_same⟩
/-- the dict stands as data for a while -/
theorem D1.shut (d : D1 B0 H0 B H na m) : Ex B (upd B na (.dT (toK m))) ∧ Ok Fm.pure (upd B na (.dT (toK m))) H ∧ DicV m (.ref na) (upd B na (.dT (toK m))) := by
  refine ⟨Ex.new d.bn, Ok.any fun a o h => ?_, na, rfl, upd_same⟩
  by_cases e : a = na
  · subst e
    rw [upd_same] at h
    rw [d.hn]
    exact h
  · rw [upd_ne e] at h
    exact d.st.bh a o h
/-- heaps that grew behind a look -/
theorem D1.grown (d : D1 B0 H0 B H na m) (e : Ex H H5) : D1 B0 H0 B H5 na m :=
  ⟨d.st.trans ⟨Ex.refl B, fun a o h => e _ _ (d.st.bh a o h), fun a o _ h => e _ _ h, fun a h _ => h, (fun a hn => by
    cases hh : H a with
    | none => exact absurd hh hn
    | some o => rw [e _ _ hh]; exact fun z => nomatch z), fun a ⟨o, h, n⟩ => ⟨o, e _ _ h, n⟩⟩, d.n0, d.bn, e _ _ d.hn⟩
/-- x = {} -/
theorem qd_new (k0 : Ok Fm.pure B H) (q : ∀ na, D1 B H B (upd H na (.dT (toK []))) na [] → tz D (σ.set i (some (.ref na))) (upd H na (.dT (toK [])))) : tSeq (tAsg tDNewT (gName i)) tz D σ H :=
  fun na hna => q na ⟨step_set (Step.refl k0.e) hna (fresh_back k0.e hna), hna, fresh_back k0.e hna, upd_same⟩
/-- x = e, e looks at the dict and gives what needs no heap -/
theorem qd_look {W : V → Prop} (d : D1 B0 H0 B H na m) (h : EV Fm.pure te σ (upd B na (.dT (toK m))) (fun v _ => W v)) (q : ∀ v H5, D1 B0 H0 B H5 na m → W v → tz D (σ.set i (some v)) H5) : tSeq (tAsg te (gName i)) tz D σ H :=
  h _ (Ex.refl _) H d.shut.2.1 _ fun v B5 H5 s5 _ w => q v H5 (d.grown s5.ex) w
theorem sd_if (d : D1 B0 H0 B H na m) (h : ETt Fm.pure t σ (upd B na (.dT (toK m))) b) (h1 : b = true → ∀ H5, D1 B0 H0 B H5 na m → tu D σ H5) (h2 : b = false → ∀ H5, D1 B0 H0 B H5 na m → tw D σ H5) : tIfS t tu tw D σ H :=
  h _ (Ex.refl _) H d.shut.2.1 _ fun B5 H5 s5 _ => by
    cases b with
    | true =>
      show tu D σ H5
      exact h1 rfl H5 (d.grown s5.ex)
    | false =>
      show tw D σ H5
      exact h2 rfl H5 (d.grown s5.ex)
/-- x[k] = e -/
theorem sd_put (d : D1 B0 H0 B H na m) (hi : σ[i]? = some (some (.ref na))) (hv : EV Fm.pure tv σ B (fun v _ => v = .int n)) (hk : EV Fm.pure ty σ B (KeyV k)) (nd : Nd m) (hl : m.length < 16777216) (q : ∀ B5 H5, D1 B0 H0 B5 H5 na (ptI m k n) → Ex B B5 → D.nx σ H5) : sDPut (tVar i) ty tv D σ H :=
  hv B (Ex.refl B) H d.ok _ fun v B1 H1 s1 j1 ev => ⟨.ref na, hi, hk B1 s1.bb H1 j1 _ fun u B2 H2 s2 j2 ⟨a, eu, g⟩ => by
    have d2 := d.pass (s1.trans s2)
    subst ev eu
    refine ⟨na, upd H2 na (.dT (putK (toK m) (kI k) (.int n))), rfl, DPut.t d2.hn (by rw [kV_kI]; exact j2.e _ _ g) ?_, ?_⟩
    · rw [sizeLine_eq]
      show (List.map _ m).length < _
      rw [List.length_map]
      exact hl
    · rw [put_toK nd]
      exact q B2 _ (d2.set _) (s1.bb.trans s2.bb)⟩
end
end Dx

/-! tuples of ints: at least -/
namespace Dx
open PySem PySem.Spec PyProof.Rows L2 Evl
def geI : List Int → List Int → Bool
  | _, [] => true
  | [], _ :: _ => false
  | x :: xs, y :: ys => if x = y then geI xs ys else decide (y ≤ x)
def rGeT (K : PySem.W.Frag) : R2 := fun x y H Q => ∃ (a b : Addr) (ns ms : List Int), x = .ref a ∧ y = .ref b ∧ SqT K H a (ns.map V.int) ∧ SqT K H b (ms.map V.int) ∧ Q (.bl (geI ns ms)) H
theorem lex_sh {e r e' r' : Nat → Bool} {z : Bool} : ∀ (k i : Nat), (∀ j, e (j + 1) = e' j) → (∀ j, r (j + 1) = r' j) → Ob.lexAt e r z (i + 1) k = Ob.lexAt e' r' z i k
  | 0, _, _, _ => rfl
  | k + 1, i, h, g => by rw [Ob.lexAt_succ, Ob.lexAt_succ, h, g, lex_sh k (i + 1) h g]
theorem lex_ge : ∀ (ns ms : List Int), Ob.lexAt (fun j => decide (ns.getD j 0 = ms.getD j 0)) (fun j => decide (ms.getD j 0 ≤ ns.getD j 0)) (decide (ns.length ≥ ms.length)) 0 (min ns.length ms.length) = geI ns ms
  | ns, [] => by
    rw [show min ns.length ([] : List Int).length = 0 from Nat.min_zero _, Ob.lexAt_zero]
    cases ns <;> rfl
  | [], m :: ms => by
    rw [show min ([] : List Int).length (m :: ms).length = 0 from Nat.zero_min _, Ob.lexAt_zero]
    rfl
  | n :: ns, m :: ms => by
    rw [show min (n :: ns).length (m :: ms).length = min ns.length ms.length + 1 by simp only [List.length_cons]; omega, Ob.lexAt_succ]
    rw [lex_sh (e' := fun j => decide (ns.getD j 0 = ms.getD j 0)) (r' := fun j => decide (ms.getD j 0 ≤ ns.getD j 0)) _ 0 (fun _ => rfl) (fun _ => rfl)]
    rw [show decide ((n :: ns).length ≥ (m :: ms).length) = decide (ns.length ≥ ms.length) from decide_eq_decide.mpr (by simp only [List.length_cons]; omega), lex_ge ns ms]
    show (if decide (n = m) = true then geI ns ms else decide (m ≤ n)) = geI (n :: ns) (m :: ms)
    by_cases e : n = m
    · rw [if_pos (decide_eq_true e)]
      show _ = if n = m then geI ns ms else decide (m ≤ n)
      rw [if_pos e]
    · rw [if_neg (by rw [decide_eq_false e]; exact Bool.false_ne_true)]
      show _ = if n = m then geI ns ms else decide (m ≤ n)
      rw [if_neg e]
theorem ints_laid : ∀ {ns : List Int} {its : List Value}, Vals (ns.map V.int) its → its.length = ns.length ∧ ∀ j (g : j < its.length), ∃ t, its[j] = .int (ns.getD j 0) t
  | ns, its, h => by
    have i : IntsAre its ns := Vals.ints h
    exact ⟨i.length, fun j g => PyProof.Rows.IntsAre.int_at i _ _ (by simp [g])⟩
theorem op_geT {X : Cx} (hu : X.A.units < cLine) : OpR X (compareOp .GtE) (rGeT X.K) := by
  rintro pins s σ H x y v u Q I e1 e2 ⟨a, b, ns, ms, rfl, rfl, ha, hb, q⟩
  cases (show v = Value.ref a from e1)
  cases (show u = Value.ref b from e2)
  obtain ⟨as, ra, pa, _⟩ := I.tuple ha
  obtain ⟨bs, rb, pb, _⟩ := I.tuple hb
  obtain ⟨la, fa⟩ := ints_laid ra
  obtain ⟨lb, fb⟩ := ints_laid rb
  rw [← lex_ge] at q
  have R := Ob.RcOp.tuples_ge (A := X.A) (s := s) (e := fun j => decide (ns.getD j 0 = ms.getD j 0)) (r := fun j => decide (ms.getD j 0 ≤ ns.getD j 0)) pa pb hu
    (fun j g g' => by
      obtain ⟨t, e⟩ := fa j (by simpa using g)
      obtain ⟨t', e'⟩ := fb j (by simpa using g')
      simp only [List.getElem_toArray, e, e']
      have z := SeqAt.EqAt.int_int (A := X.A.in1) (s := s) (ns.getD j 0) t (ms.getD j 0) t'
      rwa [show (ns.getD j 0 == ms.getD j 0) = decide (ns.getD j 0 = ms.getD j 0) from rfl] at z)
    fun j g g' _ => by
      obtain ⟨t, e⟩ := fa j (by simpa using g)
      obtain ⟨t', e'⟩ := fb j (by simpa using g')
      simp only [List.getElem_toArray, e, e']
      exact Ob.RcOp.ge_int _ _ t t'
  rw [List.size_toArray, List.size_toArray, la, lb] at R
  exact R X.prog X.w X.xe (EP X pins σ Q) ⟨.bl _, H, I, rfl, q⟩
/-! less -/
def ltI : List Int → List Int → Bool
  | _, [] => false
  | [], _ :: _ => true
  | x :: xs, y :: ys => if x = y then ltI xs ys else decide (x < y)
theorem ge_lt : ∀ (ns ms : List Int), geI ns ms = !ltI ns ms
  | [], [] => rfl
  | _ :: _, [] => rfl
  | [], _ :: _ => rfl
  | n :: ns, m :: ms => by
    show (if n = m then geI ns ms else decide (m ≤ n)) = !(if n = m then ltI ns ms else decide (n < m))
    by_cases e : n = m
    · rw [if_pos e, if_pos e, ge_lt ns ms]
    · rw [if_neg e, if_neg e]
      by_cases g : n < m
      · rw [decide_eq_true g, decide_eq_false (by omega)]
        rfl
      · rw [decide_eq_false g, decide_eq_true (by omega)]
        rfl
def rLtT (K : PySem.W.Frag) : R2 := fun x y H Q => ∃ (a b : Addr) (ns ms : List Int), x = .ref a ∧ y = .ref b ∧ SqT K H a (ns.map V.int) ∧ SqT K H b (ms.map V.int) ∧ Q (.bl (ltI ns ms)) H
theorem lex_lt : ∀ (ns ms : List Int), Ob.lexAt (fun j => decide (ns.getD j 0 = ms.getD j 0)) (fun j => decide (ns.getD j 0 < ms.getD j 0)) (decide (ns.length < ms.length)) 0 (min ns.length ms.length) = ltI ns ms
  | ns, [] => by
    rw [show min ns.length ([] : List Int).length = 0 from Nat.min_zero _, Ob.lexAt_zero]
    cases ns <;> rfl
  | [], m :: ms => by
    rw [show min ([] : List Int).length (m :: ms).length = 0 from Nat.zero_min _, Ob.lexAt_zero, decide_eq_true (by simp)]
    rfl
  | n :: ns, m :: ms => by
    rw [show min (n :: ns).length (m :: ms).length = min ns.length ms.length + 1 by simp only [List.length_cons]; omega, Ob.lexAt_succ]
    rw [lex_sh (e' := fun j => decide (ns.getD j 0 = ms.getD j 0)) (r' := fun j => decide (ns.getD j 0 < ms.getD j 0)) _ 0 (fun _ => rfl) (fun _ => rfl)]
    rw [show decide ((n :: ns).length < (m :: ms).length) = decide (ns.length < ms.length) from decide_eq_decide.mpr (by simp only [List.length_cons]; omega), lex_lt ns ms]
    show (if decide (n = m) = true then ltI ns ms else decide (n < m)) = if n = m then ltI ns ms else decide (n < m)
    by_cases e : n = m
    · rw [if_pos (decide_eq_true e), if_pos e]
    · rw [if_neg (by rw [decide_eq_false e]; exact Bool.false_ne_true), if_neg e]
theorem op_ltT {X : Cx} (hu : X.A.units < cLine) : OpR X (compareOp .Lt) (rLtT X.K) := by
  intro pins s σ H x y v u Q I e1 e2 h
  obtain ⟨a, b, ns, ms, rfl, rfl, ha, hb, q⟩ := h
  cases (show v = Value.ref a from e1)
  cases (show u = Value.ref b from e2)
  obtain ⟨as, ra, pa, _⟩ := I.tuple ha
  obtain ⟨bs, rb, pb, _⟩ := I.tuple hb
  obtain ⟨la, fa⟩ := ints_laid ra
  obtain ⟨lb, fb⟩ := ints_laid rb
  rw [← lex_lt] at q
  have R := Ob.RcOp.tuples_lt (A := X.A) (s := s) (e := fun j => decide (ns.getD j 0 = ms.getD j 0)) (r := fun j => decide (ns.getD j 0 < ms.getD j 0)) pa pb hu
    (fun j g g' => by
      obtain ⟨t, e⟩ := fa j (by simpa using g)
      obtain ⟨t', e'⟩ := fb j (by simpa using g')
      simp only [List.getElem_toArray, e, e']
      have z := SeqAt.EqAt.int_int (A := X.A.in1) (s := s) (ns.getD j 0) t (ms.getD j 0) t'
      rwa [show (ns.getD j 0 == ms.getD j 0) = decide (ns.getD j 0 = ms.getD j 0) from rfl] at z)
    fun j g g' _ => by
      obtain ⟨t, e⟩ := fa j (by simpa using g)
      obtain ⟨t', e'⟩ := fb j (by simpa using g')
      simp only [List.getElem_toArray, e, e']
      exact Ob.RcOp.lt_int _ _ t t'
  rw [List.size_toArray, List.size_toArray, la, lb] at R
  exact R X.prog X.w X.xe (EP X pins σ Q) ⟨.bl _, H, I, rfl, q⟩
theorem op_ltTK {X : Cx} (K : PySem.W.Frag) (hu : X.A.units < cLine) (hK : X.K = K := by rfl) : OpR X (compareOp .Lt) (rLtT K) := by subst hK; exact op_ltT hu
theorem op_geTK {X : Cx} (K : PySem.W.Frag) (hu : X.A.units < cLine) (hK : X.K = K := by rfl) : OpR X (compareOp .GtE) (rGeT K) := by subst hK; exact op_geT hu
theorem sq_ints {K : PySem.W.Frag} {H : Hp} {v : V} {ns : List Int} (h : Dd K H v (.tuple (ns.map .int))) : ∃ a, v = .ref a ∧ SqT K H a (ns.map V.int) := by
  obtain ⟨a, xs, rfl, h1, _, g1⟩ := dd_tup h
  obtain rfl := ddAll_ints g1
  exact ⟨a, rfl, h1⟩
theorem rd_ltT {F : Fm} {K : PySem.W.Frag} {B : Hp} {ns ms : List Int} : RD2 F K (rLtT K) B (.tuple (ns.map .int)) (.tuple (ms.map .int)) (.bool (ltI ns ms)) := rd_of fun H u v hu hv => by
  obtain ⟨a, rfl, ha⟩ := sq_ints hu
  obtain ⟨b, rfl, hb⟩ := sq_ints hv
  exact ⟨.bl _, fun _ => .bl _, fun Q q => ⟨a, b, ns, ms, rfl, rfl, ha, hb, q⟩⟩
theorem rd_geT {F : Fm} {K : PySem.W.Frag} {B : Hp} {ns ms : List Int} : RD2 F K (rGeT K) B (.tuple (ns.map .int)) (.tuple (ms.map .int)) (.bool (geI ns ms)) := rd_of fun H u v hu hv => by
  obtain ⟨a, rfl, ha⟩ := sq_ints hu
  obtain ⟨b, rfl, hb⟩ := sq_ints hv
  exact ⟨.bl _, fun _ => .bl _, fun Q q => ⟨a, b, ns, ms, rfl, rfl, ha, hb, q⟩⟩
end Dx

/-! list comprehensions with any number of clauses -/
namespace Cn
open PySem PySem.Spec PyProof.Rows L2
abbrev EvP := Value → Shared → Prop
/-- the tests of a clause -/
def tests (ifs : List Expr) (env : Env) : Sem Bool := forIn ifs true fun c r => if r = true then (do let ok ← isTrue c env (eval c env); pure (ForInStep.yield ok)) else pure (ForInStep.yield r)
section
variable (prog : Program) (w : World) (A : Around) (env : Env)
/-- a turn of a clause: the next item, its store, the tests; then `body` or `skip` -/
def CTurn (it : Value) (t : Expr) (ifs : List Expr) (E : EvP) (stop skip body : Shared → Prop) (s : Shared) : Prop := wpAny (model prog w) A (pyNext it) (fun r s₁ => match r with
  | none => stop s₁
  | some v => wpAny (model prog w) A (letOwnedTupleGo t it v) (fun _ s₂ => wpAny (model prog w) A (assign t env v) (fun _ s₃ => wpAny (model prog w) A (tests ifs env) (fun ok s₄ => if ok = true then body s₄ else skip s₄) E s₃) E s₂) E s₁) E s
/-- the body of a clause that has another behind it -/
def BOut (e : Expr) (l : Nat) (acc : Value) (i1 : Expr) (E : EvP) (P : Shared → Prop) (s : Shared) : Prop := wpAny (model prog w) A (eval i1 env) (fun x s₅ => wpAny (model prog w) A (pyIter x) (fun it1 s₆ => codeAny (model prog w) A (.compStart e l it1 acc env) (fun r s' => match r with
  | .ok _ => P s'
  | .error _ => False) s₆) E s₅) E s
/-- that of the last one -/
def BIn (elt : Expr) (acc : Value) (E : EvP) (P : Shared → Prop) (s : Shared) : Prop := wpAny (model prog w) A (eval elt env) (fun x s₅ => wpAny (model prog w) A (call (.builtin "list.append") [acc, x]) (fun _ s₆ => P s₆) E s₅) E s
end
section
variable {prog : Program} {w : World} {A : Around} {R : Result → Shared → Prop} {s : Shared} {elt t0 i0 t1 i1 : Expr} {ifs0 ifs1 : List Expr} {gens : List Comprehension} {l : Nat} {scope : Scope} {pos : Pos} {it acc : Value} {env : Env}
theorem cloop_out (h0 : gens[l]? = some ⟨t0, i0, ifs0, 0⟩) (h1 : gens[l + 1]? = some ⟨t1, i1, ifs1, 0⟩) (hs : ∀ x, foldedSetIterable i1 env x = pure x) (I : Nat → Shared → Prop)
    (turn : ∀ n s, I n s → CTurn prog w A env it t0 ifs0 (notedBy (model prog w) A env fun e s' => R (.error e) s') (fun s₁ => R (.ok .next) s₁) (fun s₄ => ∃ m, m < n ∧ I m s₄) (BOut prog w A env (.ListComp elt gens scope pos) (l + 1) acc i1 (notedBy (model prog w) A env fun e s' => R (.error e) s') fun s' => ∃ m, m < n ∧ I m s') s)
    (n : Nat) (h : I n s) : codeAny (model prog w) A (.compLoop (.ListComp elt gens scope pos) l it acc env) R s := by
  refine codeAny_loop rfl I (fun n s hI => ?_) n h
  show wpAny _ A (PySem.Sem.onRaise (compTurn (.ListComp elt gens scope pos) l it acc env) _) _ _ s
  refine wpAny_noted ?_
  have hT := turn n s hI
  unfold CTurn at hT
  unfold compTurn
  simp only [h0, h1]
  refine wpAny_bind (wpAny_standAt (wpAny_bind (wpAny_mono hT (fun r s₁ q₁ => ?_) fun _ _ z => z)))
  cases r with
  | none => exact wpAny_pure q₁
  | some v =>
    refine wpAny_bind (wpAny_mono q₁ (fun _ s₂ q₂ => wpAny_bind (wpAny_mono q₂ (fun _ s₃ q₃ => wpAny_bind (wpAny_mono q₃ (fun ok s₄ q₄ => ?_) fun _ _ z => z)) fun _ _ z => z)) fun _ _ z => z)
    cases ok with
    | false => exact wpAny_pure ⟨rfl, q₄⟩
    | true =>
      refine wpAny_bind (wpAny_mono q₄ (fun x s₅ q₅ => wpAny_bind (wpAny_standAt (wpAny_bind (wpAny_of_eq (hs x) (wpAny_bind (wpAny_holding (wpAny_mono q₅ (fun it1 s₆ q₆ => wpAny_bind (wpAny_runOwn ?_)) fun _ _ z => z))))))) fun _ _ z => z)
      rw [Around.mark_none]
      refine codeAny_mono q₆ fun r s' hr => ?_
      cases r with
      | error e => exact hr.elim
      | ok f => first | exact wpAny_pure ⟨rfl, hr⟩ | exact wpAny_bind (wpAny_pure (wpAny_pure ⟨rfl, hr⟩))
theorem cloop_in (h0 : gens[l]? = some ⟨t0, i0, ifs0, 0⟩) (h1 : gens[l + 1]? = none) (I : Nat → Shared → Prop)
    (turn : ∀ n s, I n s → CTurn prog w A env it t0 ifs0 (notedBy (model prog w) A env fun e s' => R (.error e) s') (fun s₁ => R (.ok .next) s₁) (fun s₄ => ∃ m, m < n ∧ I m s₄) (BIn prog w A env elt acc (notedBy (model prog w) A env fun e s' => R (.error e) s') fun s' => ∃ m, m < n ∧ I m s') s)
    (n : Nat) (h : I n s) : codeAny (model prog w) A (.compLoop (.ListComp elt gens scope pos) l it acc env) R s := by
  refine codeAny_loop rfl I (fun n s hI => ?_) n h
  show wpAny _ A (PySem.Sem.onRaise (compTurn (.ListComp elt gens scope pos) l it acc env) _) _ _ s
  refine wpAny_noted ?_
  have hT := turn n s hI
  unfold CTurn at hT
  unfold compTurn
  simp only [h0, h1]
  refine wpAny_bind (wpAny_standAt (wpAny_bind (wpAny_mono hT (fun r s₁ q₁ => ?_) fun _ _ z => z)))
  cases r with
  | none => exact wpAny_pure q₁
  | some v =>
    refine wpAny_bind (wpAny_mono q₁ (fun _ s₂ q₂ => wpAny_bind (wpAny_mono q₂ (fun _ s₃ q₃ => wpAny_bind (wpAny_mono q₃ (fun ok s₄ q₄ => ?_) fun _ _ z => z)) fun _ _ z => z)) fun _ _ z => z)
    cases ok with
    | false => exact wpAny_pure ⟨rfl, q₄⟩
    | true => exact wpAny_bind (wpAny_bind (wpAny_mono q₄ (fun x s₅ q₅ => wpAny_bind (wpAny_mono q₅ (fun _ s₆ q₆ => wpAny_pure (wpAny_pure ⟨rfl, q₆⟩)) fun _ _ z => z)) fun _ _ z => z))
theorem cstart_ok (hl : gens[l]? = some ⟨t0, i0, ifs0, 0⟩) (q0 : codeAny (model prog w) A (.compLoop (.ListComp elt gens scope pos) l it acc env) R s)
    (q : wpAny (model prog w) A (pyIter it) (fun it' s' => codeAny (model prog w) A (.compLoop (.ListComp elt gens scope pos) l it' acc env) R s') (notedBy (model prog w) A env fun x s' => R (.error x) s') s) :
    codeAny (model prog w) A (.compStart (.ListComp elt gens scope pos) l it acc env) R s := by
  refine codeAny_of_tree ?_
  show wpAny _ _ (PySem.Sem.onRaise (compStart (.ListComp elt gens scope pos) l it acc env) _) _ _ s
  refine wpAny_notedAt ?_
  unfold compStart
  simp only [show (clausesOf (.ListComp elt gens scope pos))[l]? = some ⟨t0, i0, ifs0, 0⟩ from hl]
  show wpAny _ _ (ask >>= _) _ _ s
  refine wpAny_bind (wpAny_askSetting (wpAny_ite ?_))
  split
  · first | exact wpAny_pure ⟨rfl, q0⟩ | exact wpAny_bind (wpAny_pure (wpAny_pure ⟨rfl, q0⟩))
  · refine wpAny_bind (wpAny_rule ?_)
    first
      | exact wpAny_bind (wpAny_standAt (wpAny_bind (wpAny_mono q (fun it' s' z => wpAny_pure ⟨rfl, z⟩) fun _ _ z => z)))
      | (show wpAny _ _ (standAt i0.pos >>= _) _ _ s; exact wpAny_bind (wpAny_standAt (wpAny_bind (wpAny_mono q (fun it' s' z => wpAny_pure ⟨rfl, z⟩) fun _ _ z => z))))
end
section
variable {prog : Program} {w : World} {A : Around} {R : Result → Shared → Prop} {s : Shared} {elt t0 i0 : Expr} {ifs0 : List Expr} {gens : List Comprehension} {l : Nat} {scope : Scope} {pos : Pos} {it acc : Value} {env : Env} {E : EvP} {stop skip b1 b2 : Shared → Prop}
theorem CTurn.mono (h : CTurn prog w A env it t0 ifs0 E stop skip b1 s) (i : ∀ s, b1 s → b2 s) : CTurn prog w A env it t0 ifs0 E stop skip b2 s := by
  unfold CTurn at h ⊢
  refine wpAny_mono h (fun r s₁ q₁ => ?_) fun _ _ z => z
  cases r with
  | none => exact q₁
  | some v => exact wpAny_mono q₁ (fun _ s₂ q₂ => wpAny_mono q₂ (fun _ s₃ q₃ => wpAny_mono q₃ (fun ok s₄ q₄ => by cases ok <;> first | exact q₄ | exact i _ q₄) fun _ _ z => z) fun _ _ z => z) fun _ _ z => z
/-- what stands behind the clause l -/
def Nxt (gens : List Comprehension) (env : Env) (l : Nat) : Prop := gens[l]? = none ∨ ∃ t1 i1 ifs1, gens[l]? = some ⟨t1, i1, ifs1, 0⟩ ∧ ∀ x, foldedSetIterable i1 env x = pure x
def Bdy (prog : Program) (w : World) (A : Around) (env : Env) (elt : Expr) (gens : List Comprehension) (scope : Scope) (pos : Pos) (l : Nat) (acc : Value) (E : EvP) (P : Shared → Prop) (s : Shared) : Prop :=
  (gens[l]? = none → BIn prog w A env elt acc E P s) ∧ ∀ t1 i1 ifs1, gens[l]? = some ⟨t1, i1, ifs1, 0⟩ → BOut prog w A env (.ListComp elt gens scope pos) l acc i1 E P s
theorem cloop_any (h0 : gens[l]? = some ⟨t0, i0, ifs0, 0⟩) (hn : Nxt gens env (l + 1)) (I : Nat → Shared → Prop)
    (turn : ∀ n s, I n s → CTurn prog w A env it t0 ifs0 (notedBy (model prog w) A env fun e s' => R (.error e) s') (fun s₁ => R (.ok .next) s₁) (fun s₄ => ∃ m, m < n ∧ I m s₄) (Bdy prog w A env elt gens scope pos (l + 1) acc (notedBy (model prog w) A env fun e s' => R (.error e) s') fun s' => ∃ m, m < n ∧ I m s') s)
    (n : Nat) (h : I n s) : codeAny (model prog w) A (.compLoop (.ListComp elt gens scope pos) l it acc env) R s := by
  rcases hn with h1 | ⟨t1, i1, ifs1, h1, hf⟩
  · exact cloop_in h0 h1 I (fun n s hI => (turn n s hI).mono fun s q => q.1 h1) n h
  · exact cloop_out h0 h1 hf I (fun n s hI => (turn n s hI).mono fun s q => q.2 _ _ _ h1) n h
end
abbrev Clz := TI × TG × TT × List Nat
def topV : List Clz → List Nat
  | [] => []
  | (_, _, _, vs) :: _ => vs
inductive Lv (Y : Cx) (gens : List Comprehension) : Nat → List Clz → Prop
  | nil {l : Nat} : gens[l]? = none → Lv Y gens l []
  | cons {l : Nat} {t i : Expr} {ifs : List Expr} {wi : TI} {g : TG} {tt : TT} {vs : List Nat} {r : List Clz} (h0 : gens[l]? = some ⟨t, i, ifs, 0⟩) (hp : PI Y t i wi) (hg : PG Y t g) (ht : PTs Y ifs tt) (hf : ∀ x, foldedSetIterable i Y.env x = pure x) (hv : ∀ i ∈ topV r, i ∈ vs) (hr : Lv Y gens (l + 1) r) : Lv Y gens l ((wi, g, tt, vs) :: r)
theorem Lv.nxt {Y : Cx} {gens : List Comprehension} {l : Nat} {r : List Clz} (h : Lv Y gens l r) : Nxt gens Y.env l := by
  cases h with
  | nil h => exact .inl h
  | cons h0 _ _ _ hf _ _ => exact .inr ⟨_, _, _, h0, hf⟩
/-- the loops of the clauses r, D the list that grows; Nx: what is reached when they are through -/
def lcIn (D : Addr) (te : TE) : List Clz → L2.St → Hp → (Hp → Prop) → Prop
  | [], σ, H, Nx => te σ H fun y H' => ∃ acc, H' D = some (.lst acc) ∧ acc.length < sizeLine ∧ Nx (upd H' D (.lst (acc ++ [y])))
  | (wi, g, tt, vs) :: r, σ, H, Nx => wi σ H fun J H1 => ∃ W : Nat → Nat → Hp → Prop, (∃ m, W 0 m H1) ∧ ∀ i m H, W i m H → (J.stop i H ∧ Nx H) ∨ (J.go i H ∧ ∃ N2 : Hp → Prop, (∀ H', N2 H' → ∃ m', m' < m ∧ W (i + 1) m' H') ∧
      ∀ x H', J.yld i H x H' → g x (wipe σ vs) H' fun σ2 H2 => wipe σ2 vs = wipe σ vs ∧ tt σ2 H2 fun b H3 => if b = true then lcIn D te r σ2 H3 N2 else N2 H3)
section
variable {Y : Cx} {elt : Expr} {gens : List Comprehension} {scope : Scope} {pos : Pos} {te : TE} {D : Addr}
theorem body_ok (hcal : Y.calm = true) (hxe : Y.xe = fun _ _ => False) (he : PE Y elt te) {l : Nat} {r : List Clz} (h : Lv Y gens l r) : ∀ (pins : List (Addr × Obj)) (σ : L2.St) (H : Hp) (s : Shared) (Nx : Hp → Prop) (P : Shared → Prop) (E : EvP), Inv Y pins σ H s → lcIn D te r σ H Nx →
    (∀ σ' H' s', Inv Y pins σ' H' s' → σ.length = σ'.length → (∀ (j : Nat) v, (wipe σ (topV r))[j]? = some (some v) → σ'[j]? = some (some v)) → Nx H' → P s') → Bdy Y.prog Y.w Y.A Y.env elt gens scope pos l (.ref D) E P s := by
  induction h with
  | nil hl =>
    intro pins σ H s Nx P E I q fin
    refine ⟨fun _ => ?_, fun _ _ _ z => (by rw [hl] at z; cases z)⟩
    unfold BIn
    have run := he.run pins s σ H _ I q
    rw [hxe] at run
    refine thnF run fun v s1 hEP => ?_
    obtain ⟨y, H1, I1, r1, acc, hD, hz, nx⟩ := hEP
    exact app_ok I1 hD hz r1 fun s2 I2 => fin σ _ s2 I2 rfl (fun j v e => e) nx
  | @cons l t i ifs wi g tt vs r h0 hp hg ht hf hv hr ih =>
    intro pins σ H s Nx P E I q fin
    refine ⟨fun z => (by rw [h0] at z; cases z), fun t1 i1 ifs1 z => ?_⟩
    have z' := h0.symm.trans z
    cases z'
    unfold BOut
    have run := hp.run pins s σ H _ I q
    rw [hxe] at run
    refine thnF run fun xv s1 hx => thnF hx fun itv s2 h2 => ?_
    obtain ⟨it, fp, tn, J, H2, e, I2, T, st2, f2, W, ⟨m0, w0⟩, turn⟩ := h2
    subst e
    have stat : ∀ {H' : Hp}, (∀ b ∈ fp, H' b = none) → ∀ b ∈ fp, FpOk Y pins H' b := fun hn b hb => ⟨hn b hb, (f2 b hb).2⟩
    have loop : codeAny (model Y.prog Y.w) Y.A (.compLoop (.ListComp elt gens scope pos) l (.ref it) (.ref D) Y.env) (fun r s' => match r with
        | .ok _ => P s'
        | .error _ => False) s2 := by
      refine cloop_any h0 hr.nxt (fun k s' => ∃ j H', Inv Y pins (wipe σ vs) H' s' ∧ tn j s'.heap ∧ (∀ b ∈ fp, H' b = none) ∧ W j k H') ?_ m0 ⟨0, H2, I2.weak (wipe_length _ _) (fun j v e => (wipe_some e).1), st2, fun b hb => (f2 b hb).1, w0⟩
      rintro k s3 ⟨j, H3, I3, st3, n3, w3⟩
      unfold CTurn
      rcases turn j k H3 w3 with ⟨hstop, nx⟩ | ⟨hgo, N2, hN2, step⟩
      · refine thnF (T.done Y rfl rfl rfl hcal j pins s3 (wipe σ vs) H3 (fun _ _ => False) I3 (stat n3) st3 hstop) fun r' s4 ⟨e4, I4⟩ => ?_
        subst e4
        exact fin _ _ _ I4 (wipe_length σ vs).symm (fun j v e => e) nx
      · refine thnF (T.item Y rfl rfl rfl hcal j pins s3 (wipe σ vs) H3 (fun _ _ => False) I3 (stat n3) st3 hgo) fun r' s4 ⟨u, e4, h4⟩ => ?_
        subst e4
        refine thnF h4 fun _ s5 ⟨x, H5, I5, r5, y5, st5, n5⟩ => ?_
        have I5' := I5.pinned (stat n5) (T.obj _ _ st5)
        have rg := hg.run (pins ++ pinsAt fp s5.heap) s5 (wipe σ vs) H5 x u _ I5' r5 (step x H5 y5)
        rw [hxe] at rg
        refine thnF rg fun _ s6 ⟨σ6, H6, I6, hw6, q6⟩ => ?_
        have rt := ht.run (pins ++ pinsAt fp s5.heap) s6 σ6 H6 _ I6 q6
        rw [hxe] at rt
        refine thnF rt fun b s7 ⟨H7, I7, q7⟩ => ?_
        have back : ∀ {σ' : L2.St} {H' : Hp} {s' : Shared}, Inv Y (pins ++ pinsAt fp s5.heap) σ' H' s' → σ6.length = σ'.length → (∀ (j : Nat) v, (wipe σ6 (topV r))[j]? = some (some v) → σ'[j]? = some (some v)) → N2 H' → ∃ m, m < k ∧ ∃ j H', Inv Y pins (wipe σ vs) H' s' ∧ tn j s'.heap ∧ (∀ b ∈ fp, H' b = none) ∧ W j m H' := by
          intro σ' H' s' I' hl hk nx
          obtain ⟨m', hm, w'⟩ := hN2 H' nx
          have pin : ∀ b ∈ fp, ∀ o, s5.heap.get? b = some o → s'.heap.get? b = some o ∧ H' b = none := fun b hb o e =>
            have z := I'.pin (b, o) (List.mem_append_right _ (List.mem_append_right _ (mem_pinsAt hb e)))
            ⟨z.1, z.2.1⟩
          refine ⟨m', hm, j + 1, H', I'.unpinned.weak ?_ (fun j v e => ?_), T.keep _ _ _ st5 fun b hb o e => (pin b hb o e).1, fun b hb => ?_, w'⟩
          · rw [← hl, ← hw6, wipe_length]
          · rw [← hw6] at e
            obtain ⟨e1, e2⟩ := wipe_some e
            refine hk j v ?_
            rw [wipe_out fun z => e2 (hv j z)]
            exact e1
          · obtain ⟨o, e, _⟩ := T.obj _ _ st5 b hb
            exact (pin b hb o e).2
        cases b with
        | false => exact back I7 rfl (fun j v e => (wipe_some e).1) (by simpa using q7)
        | true => exact ih (pins ++ pinsAt fp s5.heap) σ6 H7 s7 N2 _ _ I7 (by simpa using q7) fun σ' H' s' I' hl hk nx => back I' hl hk nx
    exact cstart_ok h0 loop (T.self Y.A 0 _ _ _ st2 loop)
end
/-- [elt for tg in iter if .. (the clauses r)] -/
def tLcN (wi : TI) (g : TG) (tt : TT) (r : List Clz) (te : TE) (vs : List Nat) : TE := fun σ H Q => wi σ H fun J H1 => ∀ D, H1 D = none → ∃ W : Nat → Nat → Hp → Prop, (∃ m, W 0 m (upd H1 D (.lst []))) ∧ ∀ i m H, W i m H → (J.stop i H ∧ Q (.ref D) H) ∨ (J.go i H ∧ ∃ N2 : Hp → Prop, (∀ H', N2 H' → ∃ m', m' < m ∧ W (i + 1) m' H') ∧
  ∀ x H', J.yld i H x H' → g x (wipe σ vs) H' fun σ2 H2 => wipe σ2 vs = wipe σ vs ∧ tt σ2 H2 fun b H3 => if b = true then lcIn D te r σ2 H3 N2 else N2 H3)
section
variable {X : Cx}
abbrev AtBlk (X : Cx) (scope : Scope) (C : Cx → Prop) : Prop := ∀ (s : Shared) (H : Hp) (a : Addr) (cl : List (Str × Addr)) (fp : List Addr), C (X.blk s H scope (compEnvC scope cl a X.env) fp)
theorem pe_lcN {elt tg iter : Expr} {ifs : List Expr} {more : List Comprehension} {scope : Scope} {own : List (Str × Nat)} {pos : Pos} {wi : TI} {g : TG} {tt : TT} {te : TE} {r : List Clz} (hc : X.calm = true) (hN : X.N.Nodup) (hi : PI X tg iter wi) (ok : BlkOk X.N X.env.scope scope own) (hv : ∀ i ∈ topV r, i ∈ own.map (·.2))
    (hg : AtBlk X scope fun Y => PG Y tg g) (ht : AtBlk X scope fun Y => PTs Y ifs tt) (he : AtBlk X scope fun Y => PE Y elt te) (hr : AtBlk X scope fun Y => Lv Y (⟨tg, iter, ifs, 0⟩ :: more) 1 r) (hs : ∀ x, foldedSetIterable iter X.env x = pure x := by intro _; rfl) :
    PE X (.ListComp elt (⟨tg, iter, ifs, 0⟩ :: more) scope pos) (tLcN wi g tt r te (own.map (·.2))) := by
  refine ⟨fun pins s σ H Q I h => ?_⟩
  rw [eval_ListComp]
  have free : ∀ y ∈ scope.names, y.2 = .free → ∃ c, X.env.cells.lookup y.1 = some c := fun y hy e => I.ok.has _ ((ok.free y hy e).imp id id)
  refine wpAny_comprehension_free (use := none) rfl hs (closure_ok free) ok.kind (fun y hy e => by rw [ok.uniq y hy, e]) (thn (hi.run pins s σ H _ I h) fun xv s1 hx => thn hx fun itv s2 h2 => ?_)
  obtain ⟨it, fp, tn, J, H2, e, I2, T, st2, f2, q⟩ := h2
  subst e
  refine wpAny_newObj_type (newEnv_comp ?_) (by show 0 ≤ sizeLine; decide)
  generalize hD : s2.heap.objs.size = D
  obtain ⟨W, ⟨m0, w0⟩, turn⟩ := q D (I2.hok.fresh (Nat.le_of_eq hD))
  generalize hs3 : ({ s2 with heap := s2.heap.push { cls := .type "list", data := .seq ([] : List Value).toArray } } : Shared) = s3
  have h3 : s3.heap = s2.heap.push { cls := .type "list", data := .seq ([] : List Value).toArray } := by rw [← hs3]
  have I3 : Inv X pins σ (upd H2 D (.lst [])) s3 := by
    rw [← hs3]
    refine I2.laid (t' := s2.toks) (fun b o e => Heap.get?_push_of_some _ e) (Nat.le_of_eq hD) ⟨Nat.zero_le _, [], 0, .nil, ?_⟩
    rw [← hD]
    exact Heap.get?_push_size _ rfl
  have f3 : ∀ b ∈ fp, FpOk X pins (upd H2 D (.lst [])) b ∧ b < s3.heap.objs.size := fun b hb => by
    obtain ⟨o, eo, _⟩ := T.obj _ _ st2 b hb
    have lt := Heap.lt_size eo
    exact ⟨⟨by rw [upd_ne (by rw [← hD]; exact Nat.ne_of_lt lt)]; exact (f2 b hb).1, (f2 b hb).2⟩, by rw [h3, Heap.size_push]; exact Nat.lt_succ_of_lt lt⟩
  have st3 : tn 0 s3.heap := T.keep _ _ _ st2 fun b _ o e => by rw [h3]; exact Heap.get?_push_of_some _ e
  have I4 := block_start I3 ok hN f3
  generalize hcl : cellsFrom (s3.heap.objs.size + 1) scope.names (cloFrom X.env.cells scope.names []) = cl at I4
  have pg := hg s3 (upd H2 D (.lst [])) s3.heap.objs.size cl fp
  have pt := ht s3 (upd H2 D (.lst [])) s3.heap.objs.size cl fp
  have pe := he s3 (upd H2 D (.lst [])) s3.heap.objs.size cl fp
  have pr := hr s3 (upd H2 D (.lst [])) s3.heap.objs.size cl fp
  have nfp : ∀ b ∈ fp, (upd H2 D (.lst [])) b = none := fun b hb => (f3 b hb).1.1
  show codeAny (model X.prog X.w) X.A (.compStart (.ListComp elt (⟨tg, iter, ifs, 0⟩ :: more) scope pos) 0 (.ref it) (.ref D) (compEnvC scope cl s3.heap.objs.size X.env)) (compPost (model X.prog X.w) X.A X.xe none _ (.ref D) s3.heap.objs.size) { s3 with heap := pushCells (s3.heap.push { cls := .type "dict", data := .dict #[] }) scope.names }
  generalize hs4 : ({ s3 with heap := pushCells (s3.heap.push { cls := .type "dict", data := .dict #[] }) scope.names } : Shared) = s4 at I4 ⊢
  have st4 : tn 0 s4.heap := T.keep _ _ _ st3 fun b _ o e => by rw [← hs4]; exact pushCells_keeps _ _ _ _ (Heap.get?_push_of_some _ e)
  generalize hY : X.blk s3 (upd H2 D (.lst [])) scope (compEnvC scope cl s3.heap.objs.size X.env) fp = Y at I4 pg pt pe pr
  have y1 : Y.prog = X.prog := by rw [← hY] <;> rfl
  have y2 : Y.w = X.w := by rw [← hY] <;> rfl
  have y3 : Y.K = X.K := by rw [← hY] <;> rfl
  have y4 : Y.A = X.A := by rw [← hY] <;> rfl
  have y5 : Y.calm = true := by rw [← hY]; exact hc
  have y6 : Y.xe = fun _ _ => False := by rw [← hY] <;> rfl
  have y7 : Y.env = compEnvC scope cl s3.heap.objs.size X.env := by rw [← hY] <;> rfl
  have stat : ∀ {σ' : L2.St} {H' : Hp} {s' : Shared}, Inv Y [] σ' H' s' → (∀ b ∈ fp, H' b = none) → ∀ b ∈ fp, FpOk Y [] H' b := by
    rw [← hY]
    exact fun {σ' H' s'} I' hn b hb => ⟨hn b hb, (I'.ok.exf b hb).1, I'.ok.exfs b hb, .inl hb, fun x c e => (I'.ok.exf b hb).2 x c e, fun p hp => nomatch (show p ∈ ([] : List (Addr × Obj)) ++ [] from hp)⟩
  have home : ∀ {σ' : L2.St} {H' : Hp} {s' : Shared}, Inv Y [] σ' H' s' → Q (.ref D) H' → compPost (model X.prog X.w) X.A X.xe none (EP X pins σ Q) (.ref D) s3.heap.objs.size (.ok .next) s' := by
    rw [← hY]
    intro σ' H' s' I' qq
    have I7 : Inv X pins σ H' s' := I3.call' (ch := fp) I'.os I'.base I'.hok I'.bare fun b hb => ⟨(f3 b hb).1.2.2.2.1, (f3 b hb).1.2.1, (f3 b hb).1.2.2.2.2.1, (f3 b hb).1.2.2.2.2.2⟩
    obtain ⟨m, hn, _⟩ := I'.loc
    obtain ⟨g0, g1, g2, g3, g4, g5⟩ := I3.fpOk (H' := H') (Nat.le_refl _) I'.free
    exact ⟨m, hn, fun h'' sb => ⟨.ref D, H', I7.turned (t' := s'.toks) (fun b o hb e => (sb.2 b hb).trans e) g0 g1 g3 g4 g5, rfl, qq⟩⟩
  rw [← y7]
  have loop : codeAny (model X.prog X.w) X.A (.compLoop (.ListComp elt (⟨tg, iter, ifs, 0⟩ :: more) scope pos) 0 (.ref it) (.ref D) Y.env) (compPost (model X.prog X.w) X.A X.xe none (EP X pins σ Q) (.ref D) s3.heap.objs.size) s4 := by
    refine cloop_any (gens := ⟨tg, iter, ifs, 0⟩ :: more) rfl pr.nxt (fun n s' => ∃ i H', Inv Y [] (wipe σ (own.map (·.2))) H' s' ∧ tn i s'.heap ∧ (∀ b ∈ fp, H' b = none) ∧ W i n H') ?_ m0 ⟨0, _, I4, st4, nfp, w0⟩
    rintro n s5 ⟨i, H5, I5, st5, n5, w5⟩
    unfold CTurn
    rcases turn i n H5 w5 with ⟨hstop, qq⟩ | ⟨hgo, N2, hN2, step⟩
    · have run := T.done Y y1 y2 y3 y5 i [] s5 _ H5 (fun _ _ => False) I5 (stat I5 n5) st5 hstop
      rw [y4] at run
      refine thnF run fun r' s6 ⟨e6, I6⟩ => ?_
      subst e6
      exact home I6 qq
    · have run := T.item Y y1 y2 y3 y5 i [] s5 _ H5 (fun _ _ => False) I5 (stat I5 n5) st5 hgo
      rw [y4] at run
      refine thnF run fun r' s6 ⟨u, e6, h6⟩ => ?_
      subst e6
      refine thnF h6 fun _ s7 ⟨x, H7, I7, r7, y7', st7, n7⟩ => ?_
      have I7' := I7.pinned (stat I7 n7) (T.obj _ _ st7)
      have rg := pg.run ([] ++ pinsAt fp s7.heap) s7 _ H7 x u _ I7' r7 (step x H7 y7')
      rw [y6, y4, y1, y2] at rg
      refine thnF rg fun _ s8 ⟨σ8, H8, I8, hw8, q8⟩ => ?_
      have rt := pt.run ([] ++ pinsAt fp s7.heap) s8 σ8 H8 _ I8 q8
      rw [y6, y4, y1, y2] at rt
      refine thnF rt fun b s9 ⟨H9, I9, q9⟩ => ?_
      have back : ∀ {σ' : L2.St} {H' : Hp} {s' : Shared}, Inv Y ([] ++ pinsAt fp s7.heap) σ' H' s' → σ8.length = σ'.length → (∀ (j : Nat) v, (wipe σ8 (topV r))[j]? = some (some v) → σ'[j]? = some (some v)) → N2 H' → ∃ m, m < n ∧ ∃ j H', Inv Y [] (wipe σ (own.map (·.2))) H' s' ∧ tn j s'.heap ∧ (∀ b ∈ fp, H' b = none) ∧ W j m H' := by
        intro σ' H' s' I' hl hk nx
        obtain ⟨m', hm, w'⟩ := hN2 H' nx
        have pin : ∀ b ∈ fp, ∀ o, s7.heap.get? b = some o → s'.heap.get? b = some o ∧ H' b = none := fun b hb o e =>
          have z := I'.pin (b, o) (List.mem_append_right _ (List.mem_append_right _ (mem_pinsAt hb e)))
          ⟨z.1, z.2.1⟩
        refine ⟨m', hm, i + 1, H', (I'.unpinned (pins := [])).weak ?_ (fun j v e => ?_), T.keep _ _ _ st7 fun b hb o e => (pin b hb o e).1, fun b hb => ?_, w'⟩
        · rw [← hl, ← hw8, wipe_length]
        · rw [← hw8] at e
          obtain ⟨e1, e2⟩ := wipe_some e
          refine hk j v ?_
          rw [wipe_out fun z => e2 (hv j z)]
          exact e1
        · obtain ⟨o, e, _⟩ := T.obj _ _ st7 b hb
          exact (pin b hb o e).2
      cases b with
      | false => exact back I9 rfl (fun j v e => (wipe_some e).1) (by simpa using q9)
      | true =>
        have z := body_ok (gens := ⟨tg, iter, ifs, 0⟩ :: more) (scope := scope) (pos := pos) y5 y6 pe pr ([] ++ pinsAt fp s7.heap) σ8 H9 s9 N2 _ (notedBy (model X.prog X.w) X.A Y.env fun e s' => compPost (model X.prog X.w) X.A X.xe none (EP X pins σ Q) (.ref D) s3.heap.objs.size (.error e) s') I9 (by simpa using q9) fun σ' H' s' I' hl hk nx => back I' hl hk nx
        rw [y1, y2, y4] at z
        exact z
  exact codeAny_compStart_list loop (T.self X.A 0 _ _ _ st4 loop)
end
end Cn

/-! dict comprehensions whose keys are tuples -/
namespace Cn
open PySem PySem.Spec PyProof.Rows L2
theorem d_dictSetT {X : Cx} {pins : List (Addr × Obj)} {σ : L2.St} {H : Hp} {s : Shared} {E : Value → Shared → Prop} {D c : Addr} {kvs : List (List Key × V)} {k : List Key} {v : V} {u r : Value} {Q : Unit → Shared → Prop} (hu : X.A.units < cLine) (I : Inv X pins σ H s) (hD : H D = some (.dT kvs)) (hc : H c = some (.tup (k.map kV))) (hz : kvs.length < sizeLine)
    (ry : RelV (.ref c) u) (rv : RelV v r) (h : ∀ s', Inv X pins σ (upd H D (.dT (putK kvs k v))) s' → Q () s') : wpAny (model X.prog X.w) X.A (dictSet D u r) Q E s := by
  obtain rfl : u = Value.ref c := ry
  obtain ⟨z, hd, xs, rel, dd⟩ := dt_of I.hok hD
  have l1 : xs.length ≤ sizeLine := by rw [← Paired.length rel]; exact z
  have l2 : (putK kvs k v).length ≤ sizeLine := by have := length_putK kvs k v; omega
  refine wpAny_dictSet_heap (hsz := l1) (show (tupleKind (mixKind X.prog X.w)).room X.A from hu) (key_of I.hok hc) dd fun h' dd' hs => h _ ?_
  obtain ⟨o, es, ep, e1, e2, e3, e4, _, e5⟩ := dd'
  refine d_write I (by rw [hD]; exact True.intro) hs ⟨o, e1⟩ ⟨l2, hd, _, (rel.put k hc rv).keeps fun b ys eb => ?_, o, es, ep, e1, e2, e3, e4, e5⟩
  rw [upd_ne (ne_of eb hD (fun z => nomatch z))]
  exact eb
/-- {k: v for tg in iter if ..}, k a tuple -/
def tDcT (wi : TI) (g : TG) (tt : TT) (tk tv : TE) (vs : List Nat) : TE := fun σ H Q => wi σ H fun J H1 => ∀ D, H1 D = none → ∃ W : Nat → Nat → Hp → Prop, (∃ m, W 0 m (upd H1 D (.dT []))) ∧ ∀ i m H, W i m H → (J.stop i H ∧ Q (.ref D) H) ∨ (J.go i H ∧ ∃ N2 : Hp → Prop, (∀ H', N2 H' → ∃ m', m' < m ∧ W (i + 1) m' H') ∧
  ∀ x H', J.yld i H x H' → g x (wipe σ vs) H' fun σ2 H2 => wipe σ2 vs = wipe σ vs ∧ tt σ2 H2 fun b H3 => if b = true then tk σ2 H3 fun y H4 => tv σ2 H4 fun z H5 => ∃ (kvs : List (List Key × V)) (k : List Key) (c : Addr), y = .ref c ∧ H5 c = some (.tup (k.map kV)) ∧ H5 D = some (.dT kvs) ∧ kvs.length < sizeLine ∧ N2 (upd H5 D (.dT (putK kvs k z))) else N2 H3)
section
variable {X : Cx}
theorem dcT_run {kx vx tg iter : Expr} {ifs : List Expr} {scope : Scope} {own : List (Str × Nat)} {pos pz : Pos} {wi : TI} {g : TG} {tt : TT} {tk tv : TE} {pins : List (Addr × Obj)} {s : Shared} {σ : L2.St} {H : Hp} {Q : VK} {use : Option (Value → Sem Unit)} {Z : Value → Shared → Prop} (hu : X.A.units < cLine) (hc : X.calm = true) (hN : X.N.Nodup) (hi : PI X tg iter wi) (ok : BlkOk X.N X.env.scope scope own)
    (hg : AtBlk X scope fun Y => PG Y tg g) (ht : AtBlk X scope fun Y => PTs Y ifs tt) (hk : AtBlk X scope fun Y => PE Y kx tk) (he : AtBlk X scope fun Y => PE Y vx tv) (hs : ∀ x, foldedSetIterable iter X.env x = pure x) (I : Inv X pins σ H s) (h : tDcT wi g tt tk tv (own.map (·.2)) σ H Q)
    (hz : ∀ (D C : Addr) (s' : Shared) (m : Str → Option Value) (H' : Hp), Inv X pins σ H' s' → Q (.ref D) H' → s'.heap.Ns C m → FpOk X pins H' C → compPost (model X.prog X.w) X.A X.xe use Z (.ref D) C (.ok .next) s') :
    wpAny (model X.prog X.w) X.A (comprehension (.DictComp kx vx [⟨tg, iter, ifs, 0⟩] scope pos) scope X.env pz newDict false (eval iter X.env) use) Z X.xe s := by
  have free : ∀ y ∈ scope.names, y.2 = .free → ∃ c, X.env.cells.lookup y.1 = some c := fun y hy e => I.ok.has _ ((ok.free y hy e).imp id id)
  refine wpAny_comprehension_free (use := use) rfl hs (closure_ok free) ok.kind (fun y hy e => by rw [ok.uniq y hy, e]) (thn (hi.run pins s σ H _ I h) fun xv s1 hx => thn hx fun itv s2 h2 => ?_)
  obtain ⟨it, fp, tn, J, H2, e, I2, T, st2, f2, q⟩ := h2
  subst e
  refine wpAny_newObj_type (newEnv_comp ?_)
  generalize hD : s2.heap.objs.size = D
  obtain ⟨W, ⟨m0, w0⟩, turn⟩ := q D (I2.hok.fresh (Nat.le_of_eq hD))
  generalize hs3 : ({ s2 with heap := s2.heap.push { cls := .type "dict", data := .dict #[] } } : Shared) = s3
  have h3 : s3.heap = s2.heap.push { cls := .type "dict", data := .dict #[] } := by rw [← hs3]
  have I3 : Inv X pins σ (upd H2 D (.dT [])) s3 := by
    rw [← hs3]
    refine I2.laid (t' := s2.toks) (fun b o e => Heap.get?_push_of_some _ e) (Nat.le_of_eq hD) ?_
    rw [← hD]
    exact dt_empty s2.heap I2.big
  have f3 : ∀ b ∈ fp, FpOk X pins (upd H2 D (.dT [])) b ∧ b < s3.heap.objs.size := fun b hb => by
    obtain ⟨o, eo, _⟩ := T.obj _ _ st2 b hb
    have lt := Heap.lt_size eo
    exact ⟨⟨by rw [upd_ne (by rw [← hD]; exact Nat.ne_of_lt lt)]; exact (f2 b hb).1, (f2 b hb).2⟩, by rw [h3, Heap.size_push]; exact Nat.lt_succ_of_lt lt⟩
  have st3 : tn 0 s3.heap := T.keep _ _ _ st2 fun b _ o e => by rw [h3]; exact Heap.get?_push_of_some _ e
  have I4 := block_start I3 ok hN f3
  generalize hcl : cellsFrom (s3.heap.objs.size + 1) scope.names (cloFrom X.env.cells scope.names []) = cl at I4
  have pg := hg s3 (upd H2 D (.dT [])) s3.heap.objs.size cl fp
  have pt := ht s3 (upd H2 D (.dT [])) s3.heap.objs.size cl fp
  have pk := hk s3 (upd H2 D (.dT [])) s3.heap.objs.size cl fp
  have pe := he s3 (upd H2 D (.dT [])) s3.heap.objs.size cl fp
  have nfp : ∀ b ∈ fp, (upd H2 D (.dT [])) b = none := fun b hb => (f3 b hb).1.1
  show codeAny (model X.prog X.w) X.A (.compStart (.DictComp kx vx [⟨tg, iter, ifs, 0⟩] scope pos) 0 (.ref it) (.ref D) (compEnvC scope cl s3.heap.objs.size X.env)) (compPost (model X.prog X.w) X.A X.xe use Z (.ref D) s3.heap.objs.size) { s3 with heap := pushCells (s3.heap.push { cls := .type "dict", data := .dict #[] }) scope.names }
  generalize hs4 : ({ s3 with heap := pushCells (s3.heap.push { cls := .type "dict", data := .dict #[] }) scope.names } : Shared) = s4 at I4 ⊢
  have st4 : tn 0 s4.heap := T.keep _ _ _ st3 fun b _ o e => by rw [← hs4]; exact pushCells_keeps _ _ _ _ (Heap.get?_push_of_some _ e)
  generalize hY : X.blk s3 (upd H2 D (.dT [])) scope (compEnvC scope cl s3.heap.objs.size X.env) fp = Y at I4 pg pt pk pe
  have y1 : Y.prog = X.prog := by rw [← hY] <;> rfl
  have y2 : Y.w = X.w := by rw [← hY] <;> rfl
  have y3 : Y.K = X.K := by rw [← hY] <;> rfl
  have y4 : Y.A = X.A := by rw [← hY] <;> rfl
  have y5 : Y.calm = true := by rw [← hY]; exact hc
  have y6 : Y.xe = fun _ _ => False := by rw [← hY] <;> rfl
  have y7 : Y.env = compEnvC scope cl s3.heap.objs.size X.env := by rw [← hY] <;> rfl
  have stat : ∀ {σ' : L2.St} {H' : Hp} {s' : Shared}, Inv Y [] σ' H' s' → (∀ b ∈ fp, H' b = none) → ∀ b ∈ fp, FpOk Y [] H' b := by
    rw [← hY]
    exact fun {σ' H' s'} I' hn b hb => ⟨hn b hb, (I'.ok.exf b hb).1, I'.ok.exfs b hb, .inl hb, fun x c e => (I'.ok.exf b hb).2 x c e, fun p hp => nomatch (show p ∈ ([] : List (Addr × Obj)) ++ [] from hp)⟩
  have home : ∀ {σ' : L2.St} {H' : Hp} {s' : Shared}, Inv Y [] σ' H' s' → Q (.ref D) H' → compPost (model X.prog X.w) X.A X.xe use Z (.ref D) s3.heap.objs.size (.ok .next) s' := by
    rw [← hY]
    intro σ' H' s' I' qq
    have I7 : Inv X pins σ H' s' := I3.call' (ch := fp) I'.os I'.base I'.hok I'.bare fun b hb => ⟨(f3 b hb).1.2.2.2.1, (f3 b hb).1.2.1, (f3 b hb).1.2.2.2.2.1, (f3 b hb).1.2.2.2.2.2⟩
    obtain ⟨m, hn, _⟩ := I'.loc
    exact hz D _ s' m H' I7 qq hn (I3.fpOk (H' := H') (Nat.le_refl _) I'.free)
  rw [← y7]
  have loop : codeAny (model X.prog X.w) X.A (.compLoop (.DictComp kx vx [⟨tg, iter, ifs, 0⟩] scope pos) 0 (.ref it) (.ref D) Y.env) (compPost (model X.prog X.w) X.A X.xe use Z (.ref D) s3.heap.objs.size) s4 := by
    refine compLoop_anyD (fun n s' => ∃ i H', Inv Y [] (wipe σ (own.map (·.2))) H' s' ∧ tn i s'.heap ∧ (∀ b ∈ fp, H' b = none) ∧ W i n H') ?_ m0 ⟨0, _, I4, st4, nfp, w0⟩
    rintro n s5 ⟨i, H5, I5, st5, n5, w5⟩
    rcases turn i n H5 w5 with ⟨hstop, qq⟩ | ⟨hgo, N2, hN2, step⟩
    · have run := T.done Y y1 y2 y3 y5 i [] s5 _ H5 (fun _ _ => False) I5 (stat I5 n5) st5 hstop
      rw [y4] at run
      refine thnF run fun r' s6 ⟨e6, I6⟩ => ?_
      subst e6
      exact home I6 qq
    · have run := T.item Y y1 y2 y3 y5 i [] s5 _ H5 (fun _ _ => False) I5 (stat I5 n5) st5 hgo
      rw [y4] at run
      refine thnF run fun r' s6 ⟨u, e6, h6⟩ => ?_
      subst e6
      refine thnF h6 fun _ s7 ⟨x, H7, I7, r7, y7', st7, n7⟩ => ?_
      have I7' := I7.pinned (stat I7 n7) (T.obj _ _ st7)
      have rg := pg.run ([] ++ pinsAt fp s7.heap) s7 _ H7 x u _ I7' r7 (step x H7 y7')
      rw [y6, y4, y1, y2] at rg
      refine thnF rg fun _ s8 ⟨σ8, H8, I8, hw8, q8⟩ => ?_
      have rt := pt.run ([] ++ pinsAt fp s7.heap) s8 σ8 H8 _ I8 q8
      rw [y6, y4, y1, y2] at rt
      refine thnF rt fun b s9 ⟨H9, I9, q9⟩ => ?_
      have back : ∀ {σ' : L2.St} {H' : Hp} {s' : Shared}, Inv Y ([] ++ pinsAt fp s7.heap) σ' H' s' → σ8 = σ' → N2 H' → ∃ m, m < n ∧ ∃ j H', Inv Y [] (wipe σ (own.map (·.2))) H' s' ∧ tn j s'.heap ∧ (∀ b ∈ fp, H' b = none) ∧ W j m H' := by
        intro σ' H' s' I' hl nx
        subst hl
        obtain ⟨m', hm, w'⟩ := hN2 H' nx
        have pin : ∀ b ∈ fp, ∀ o, s7.heap.get? b = some o → s'.heap.get? b = some o ∧ H' b = none := fun b hb o e =>
          have z := I'.pin (b, o) (List.mem_append_right _ (List.mem_append_right _ (mem_pinsAt hb e)))
          ⟨z.1, z.2.1⟩
        refine ⟨m', hm, i + 1, H', (I'.unpinned (pins := [])).weak ?_ (fun j v e => ?_), T.keep _ _ _ st7 fun b hb o e => (pin b hb o e).1, fun b hb => ?_, w'⟩
        · rw [← hw8, wipe_length]
        · rw [← hw8] at e
          exact (wipe_some e).1
        · obtain ⟨o, e, _⟩ := T.obj _ _ st7 b hb
          exact (pin b hb o e).2
      cases b with
      | false => exact back I9 rfl (by simpa using q9)
      | true =>
        have rk := pk.run ([] ++ pinsAt fp s7.heap) s9 σ8 H9 _ I9 (show tk σ8 H9 _ by simpa using q9)
        rw [y6, y4, y1, y2] at rk
        refine thnF rk fun u1 s10 ⟨yk, H10, I10, r10, q10⟩ => ?_
        have rv := pe.run ([] ++ pinsAt fp s7.heap) s10 σ8 H10 _ I10 q10
        rw [y6, y4, y1, y2] at rv
        refine thnF rv fun u2 s11 ⟨yv, H11, I11, r11, kvs, k, c, ec, hc11, hD11, hz11, nx⟩ => ?_
        subst ec
        have z := d_dictSetT (Q := fun _ s' => ∃ m, m < n ∧ ∃ j H', Inv Y [] (wipe σ (own.map (·.2))) H' s' ∧ tn j s'.heap ∧ (∀ b ∈ fp, H' b = none) ∧ W j m H') (E := fun _ _ => False) (by rw [y4]; exact hu) I11 hD11 hc11 hz11 r10 r11 fun s12 I12 => back I12 rfl nx
        rw [y1, y2, y4] at z
        exact thnF z fun _ _ q => q
  exact codeAny_compStart_dict loop (T.self X.A 0 _ _ _ st4 loop)
theorem pe_dcT {kx vx tg iter : Expr} {ifs : List Expr} {scope : Scope} {own : List (Str × Nat)} {pos : Pos} {wi : TI} {g : TG} {tt : TT} {tk tv : TE} (hu : X.A.units < cLine) (hc : X.calm = true) (hN : X.N.Nodup) (hi : PI X tg iter wi) (ok : BlkOk X.N X.env.scope scope own)
    (hg : AtBlk X scope fun Y => PG Y tg g) (ht : AtBlk X scope fun Y => PTs Y ifs tt) (hk : AtBlk X scope fun Y => PE Y kx tk) (he : AtBlk X scope fun Y => PE Y vx tv) (hs : ∀ x, foldedSetIterable iter X.env x = pure x := by intro _; rfl) :
    PE X (.DictComp kx vx [⟨tg, iter, ifs, 0⟩] scope pos) (tDcT wi g tt tk tv (own.map (·.2))) := by
  refine ⟨fun pins s σ H Q I h => ?_⟩
  rw [arm_eval_DictComp]
  refine dcT_run hu hc hN hi ok hg ht hk he hs I h ?_
  intro D C s' m H' I' qq hn ⟨_, g1, g2, g3, g4, g5⟩
  exact ⟨m, hn, fun h'' sb => ⟨.ref D, H', I'.turned (t' := s'.toks) (fun b o hb e => (sb.2 b hb).trans e) ‹_› g1 g3 g4 g5, rfl, qq⟩⟩
/-- name = {..} on one line, the name a local: name and comprehension change places -/
theorem sw_dict {kx vx : Expr} {gens : List Comprehension} {scope : Scope} {pos pn : Pos} {x : Str} {l : Nat} {env : Env} (h1 : env.scope.kind = .function) (h2 : env.scope.names.lookup x = some .local) (h3 : (pn.line == pos.line) = true) (h4 : (scope.names.any fun (n, k) => n == x && (k == .local || k == .cell)) = false) :
    swapsWith (.DictComp kx vx gens scope pos) (some (.Name x pn)) l env = pure true := by
  have e1 : env.kindOf x = some .local := h2
  have e2 : env.blockKind = .function := by
    unfold Env.blockKind
    rw [h1]
    rfl
  unfold swapsWith
  simp only [e1, e2, h4, h3, Expr.pos]
  rfl
theorem ps_setDcT {i : Nat} {x : Str} {pn sp : Pos} {kx vx tg iter : Expr} {ifs : List Expr} {scope : Scope} {own : List (Str × Nat)} {pos : Pos} {wi : TI} {g : TG} {tt : TT} {tk tv : TE} (hu : X.A.units < cLine) (hc : X.calm = true) (hN : X.N.Nodup) (hx : X.N[i]? = some x) (hl : X.env.scope.names.lookup x = some .local)
    (hw : swapsWith (.DictComp kx vx [⟨tg, iter, ifs, 0⟩] scope pos) (some (.Name x pn)) sp.line X.env = pure true) (hi : PI X tg iter wi) (ok : BlkOk X.N X.env.scope scope own)
    (hg : AtBlk X scope fun Y => PG Y tg g) (ht : AtBlk X scope fun Y => PTs Y ifs tt) (hk : AtBlk X scope fun Y => PE Y kx tk) (he : AtBlk X scope fun Y => PE Y vx tv) (hs : ∀ x, foldedSetIterable iter X.env x = pure x := by intro _; rfl) :
    PS X (.Assign [.Name x pn] (.DictComp kx vx [⟨tg, iter, ifs, 0⟩] scope pos) sp) (tAsg (tDcT wi g tt tk tv (own.map (·.2))) (gName i)) := by
  refine ⟨fun pins s σ H D I h => ?_⟩
  rw [exec_Assign_Name_used _ _ _ _ hw]
  refine wpAny_bind (wpAny_standAt (wpAny_bind ?_))
  have h' : tDcT wi g tt tk tv (own.map (·.2)) σ H (fun y H1 => gName i y σ H1 D.nx) := h
  have run : wpAny (model X.prog X.w) X.A (comprehension (.DictComp kx vx [⟨tg, iter, ifs, 0⟩] scope pos) scope X.env (firstIterPos [⟨tg, iter, ifs, 0⟩] pos) newDict false (eval iter X.env) (some (assign (.Name x pn) X.env))) (fun _ s' => SP X pins D .next s') X.xe s := by
    refine dcT_run hu hc hN hi ok hg ht hk he hs I h' ?_
    intro L C s' m H' I' qq hn ⟨_, g1, g2, g3, g4, g5⟩
    show wpAny _ _ (assign (.Name x pn) X.env (.ref L)) _ _ _
    refine wpAny_assign_Name (store_ok2 (v := V.ref L) I' hN hx (.inl hl) rfl ?_ (.inr hl))
    intro s2 I2 ⟨a, sb, ha⟩
    have away : C ≠ a := by
      intro e
      rcases ha with z | z
      · exact g1 (e.trans z)
      · exact g4 x a z e.symm
    exact ⟨m, hn.sameBut sb away, fun h3 sb3 => ⟨_, H', I2.turned (t' := s2.toks) (fun b o hb e => (sb3.2 b hb).trans e) ‹_› g1 g3 g4 g5, qq⟩⟩
  exact wpAny_bind (thn run fun _ _ q => wpAny_pure (wpAny_pure q))
end
end Cn

/-! range(lo, hi): loops, comprehensions; sums -/
namespace Dx
open PySem PySem.Spec PyProof.Rows L2 Evl
section
variable {F : Fm} {K : PySem.W.Frag} {σ : L2.St} {B0 H0 B H : Hp} {D : Ends} {tb tz : TS} {tl te : TE} {tt : TT} {j : Nat} {vsN : List Nat}
theorem dds2 {H : Hp} {vs : List V} {i k : Int} (h : DdAll K H vs [.int i, .int k]) : vs = [.int i, .int k] := by
  have := ddAll_ints (k := [i, k]) h
  exact this
theorem qd_forR2 {ta : TA} {lo n : Int} (a : At F B0 H0 B H) (h : EDs F K ta σ B [.int lo, .int n]) (hn : (-4611686018427387904 ≤ lo ∧ lo < 4611686018427387904) ∧ -4611686018427387904 ≤ n ∧ n < 4611686018427387904) (I : Nat → L2.St → Hp → Prop) (h0 : ∀ B1, Ex B B1 → I 0 σ B1)
    (hs : ∀ Bb (i : Nat) σ' B1 H1, Ex B Bb → lo + (i : Int) < n → Ex Bb B1 → At F B0 H0 B1 H1 → I i σ' B1 → tb { D with nx := Lp F B0 H0 Bb (I (i + 1)), ct := Lp F B0 H0 Bb (I (i + 1)), bk := tz D } (σ'.set j (some (.int (lo + (i : Int))))) H1)
    (hd : ∀ σ' B1 H1, Ex B B1 → At F B0 H0 B1 H1 → I (n - lo).toNat σ' B1 → tz D σ' H1) : tSeq (tFor (iRng2 ta) (gName j) tb) tz D σ H := by
  refine h B (Ex.refl B) H a.j _ fun vs B1 H1 s1 j1 p => ?_
  have a1 := a.next s1 j1
  obtain rfl := dds2 p
  exact ⟨lo, n, rfl, ⟨by omega, by omega, by omega, by omega⟩, for_range (lo := lo) (n := (n - lo).toNat) (D := { D with nx := tz D }) (fun i => Lp F B0 H0 B1 (I i)) ⟨B1, Ex.refl B1, a1, h0 B1 s1.bb⟩ (fun i σ' H' hx ⟨B', e, a', hi⟩ => hs B1 i σ' B' H' s1.bb (by omega) e a' hi) (fun σ' H' ⟨B', e, a', hi⟩ => hd σ' B' H' (s1.bb.trans e) a' hi)⟩
/-- [te for i in range(lo, n) if tt] -/
theorem ed_lcR2 {ta : TA} {lo n : Int} (p : Nat → Bool) (g : Nat → PyData) (h : EDs F K ta σ B [.int lo, .int n]) (hn : (-4611686018427387904 ≤ lo ∧ lo < 4611686018427387904) ∧ -4611686018427387904 ≤ n ∧ n < 4611686018427387904 ∧ n - lo ≤ 16777216) (hw : ∀ x, wipe ((wipe σ vsN).set j (some x)) vsN = wipe σ vsN)
    (ht : ∀ (i : Nat) B1, lo + (i : Int) < n → Ex B B1 → ETt F tt ((wipe σ vsN).set j (some (.int (lo + (i : Int))))) B1 (p i))
    (he : ∀ (i : Nat) B1, lo + (i : Int) < n → p i = true → Ex B B1 → ED F K te ((wipe σ vsN).set j (some (.int (lo + (i : Int))))) B1 (g i)) :
    ED F K (tLc (iRng2 ta) (gName j) tt te vsN) σ B (.list (((List.range (n - lo).toNat).filter p).map g)) := fun B0 e0 H0 k0 Q q => by
  refine h B0 e0 H0 k0 _ fun vs B1 H1 s1 k1 pv => ?_
  obtain rfl := dds2 pv
  have le : ∀ i, (((List.range i).filter p).map g).length ≤ i := fun i => by
    rw [List.length_map]
    exact Nat.le_trans (List.length_filter_le _ _) (Nat.le_of_eq List.length_range)
  refine ⟨lo, n, rfl, ⟨by omega, by omega, by omega, by omega⟩, fun Dl hD => lc_range (lo := lo) (n := (n - lo).toNat) (fun i => Cq F K B1 H1 Dl (((List.range i).filter p).map g)) (cq_start k1 hD) (fun i H' hi c => ⟨hw _, ?_⟩) (fun H' c => ?_)⟩
  · have hi' : lo + (i : Int) < n := by omega
    rw [List.range_succ, filter_snoc]
    exact cq_turn k1 hD (Nat.lt_of_le_of_lt (le i) (by omega)) c (fun B' e => ht i B' hi' ((e0.trans s1.bb).trans e)) (fun hp B' e => he i B' hi' hp ((e0.trans s1.bb).trans e))
  · obtain ⟨B2, s2, k2, g2⟩ := cq_done k1 hD (Nat.le_trans (le _) (by omega)) c
    exact q _ B2 H' (s1.trans s2) k2 g2
/-- sum([..]) -/
theorem rc_sum {ns : List Int} : RDc F K (rSum K) B [.list (ns.map .int)] (.int ns.sum) := rc_of fun H u hu => by
  obtain ⟨a, xs, rfl, h1, l1, g1⟩ := dd_lst hu
  exact ⟨.int ns.sum, fun _ => .int _, fun Q q => ⟨a, ns, rfl, by rw [← ddAll_ints g1]; exact sq_of h1, q⟩⟩
theorem cr_sumK {X : Cx} (K : PySem.W.Frag) (hc : X.calm = true) (hK : X.K = K := by rfl) : CallR X (.builtin "sum") (rSum K) := by subst hK; exact cr_sum hc
end
end Dx

/-! ranges that are kept under a name; comprehensions of several clauses over ranges, as data -/
namespace Dx
open PySem PySem.Spec PyProof.Rows L2 Evl
theorem bt_range : bootBuiltins "range" = some (.type "range") := by decide +kernel
/-- range(n), as a value -/
def rRng1 : List V → Hp → VK → Prop := fun vs H Q => ∃ j, vs = [V.int j] ∧ ∀ p, H p = none → Q (.ref p) (upd H p (.rng 0 j))
theorem call_rng1 {X : Cx} : CallR X (.type "range") rRng1 := by
  rintro pins s σ H vs us Q I r ⟨j, rfl, q⟩
  cases r with
  | cons a t =>
    cases t
    obtain ⟨tk, rfl⟩ := a
    refine call_range_1 ⟨.ref s.heap.objs.size, upd H s.heap.objs.size (.rng 0 j), I.laid (t' := s.toks + 2) (fun _ _ e => Heap.get?_push_of_some _ e) (Nat.le_refl _) ⟨_, _, _, Heap.get?_push_size _ rfl⟩, rfl, q _ (I.hok.fresh (Nat.le_refl _))⟩
def iRngV (tl : TE) : TI := fun σ H R => tl σ H fun x H1 => ∃ a lo hi, x = .ref a ∧ H1 a = some (.rng lo hi) ∧ (-(2 ^ 62) ≤ lo ∧ lo < 2 ^ 62 ∧ -(2 ^ 62) ≤ hi ∧ hi < 2 ^ 62) ∧ R (Itr lo (hi - lo).toNat) H1
theorem pi_rngV {X : Cx} {tg l : Expr} {tl : TE} (hl : PE X l tl) : PI X tg l (iRngV tl) := by
  refine ⟨fun pins s σ H R I h => thn (hl.run pins s σ H _ I h) ?_⟩
  rintro v s1 ⟨x, H1, I1, r1, a, lo, hi, rfl, ha, ⟨b1, b2, b3, b4⟩, q⟩
  cases r1
  obtain ⟨t1, t2, t3, ho⟩ := I1.hok a _ ha
  refine wpAny_pyIter_range (show IsRange s1.heap a lo hi 1 t1 t2 t3 from ho) (small_one b1 b2 b3 b4) ?_
  refine ⟨s1.heap.objs.size, [s1.heap.objs.size], _, _, H1, rfl, I1.kept (t' := s1.toks) fun _ _ e => Heap.get?_push_of_some _ e, turn_range _ lo (hi - lo).toNat, ?_, fun b hb => ?_, q⟩
  · have z2 : (((hi - lo).toNat : Nat) : Int) - ((0 : Nat) : Int) = Builtin.Range.rangeSize lo hi 1 := by rw [rangeSize_one]; split <;> omega
    show IsRangeIter _ _ (lo + ((0 : Nat) : Int) * 1) ((((hi - lo).toNat : Nat) : Int) - ((0 : Nat) : Int)) 1
    rw [z2, show lo + ((0 : Nat) : Int) * 1 = lo by simp]
    exact Heap.get?_push_size _ rfl
  · obtain rfl : b = s1.heap.objs.size := by simpa using hb
    exact I1.fpOk (Nat.le_refl _) (I1.hok.fresh (Nat.le_refl _))
/-- a range that stands -/
def RngV (n : Int) : PV := fun v B => ∃ a, v = .ref a ∧ B a = some (.rng 0 n)
theorem upc_rng {n : Int} : Upc (RngV n) := fun _ _ _ e ⟨a, h, g⟩ => ⟨a, h, e _ _ g⟩
theorem ev_rng1 {F : Fm} {K : PySem.W.Frag} {σ : L2.St} {B : Hp} {te : TE} {n : Int} (h : ED F K te σ B (.int n)) : EV F (tCB rRng1 (tCons te tNil)) σ B (RngV n) := ev_cb (eds_cons h eds_nil) fun B1 e0 H us jj hu Q q => by
  have hu' : us = [V.int n] := ddAll_ints (k := [n]) hu
  exact ⟨n, hu', fun p hp => q _ _ _ (Step.alloc jj.e hp) (jj.alloc hp) ⟨p, rfl, upd_same⟩⟩
/-! ### the clauses of a comprehension, as data -/
open Cn
/-- the turns of a range -/
theorem w_rng {lo : Int} {n : Nat} {H1 : Hp} {Qd : Hp → Prop} {body : V → Hp → (Hp → Prop) → Prop} (I : Nat → Hp → Prop) (h0 : I 0 H1) (hs : ∀ i H, i < n → I i H → body (.int (lo + (i : Nat))) H (I (i + 1))) (hd : ∀ H, I n H → Qd H) :
    ∃ W : Nat → Nat → Hp → Prop, (∃ m, W 0 m H1) ∧ ∀ i m H, W i m H → ((Itr lo n).stop i H ∧ Qd H) ∨ ((Itr lo n).go i H ∧ ∃ N2 : Hp → Prop, (∀ H', N2 H' → ∃ m', m' < m ∧ W (i + 1) m' H') ∧ ∀ x H', (Itr lo n).yld i H x H' → body x H' N2) := by
  refine ⟨fun i m H => m + i = n ∧ I i H, ⟨n, rfl, h0⟩, ?_⟩
  rintro i m H ⟨e, p⟩
  rcases Nat.lt_or_ge i n with h | h
  · refine .inr ⟨h, I (i + 1), fun H' p' => ⟨n - (i + 1), by omega, by omega, p'⟩, ?_⟩
    rintro x H' ⟨e1, e2⟩
    rw [e1, e2]
    exact hs i H h p
  · refine .inl ⟨h, hd H ?_⟩
    obtain rfl : i = n := by omega
    exact p
section
variable {F : Fm} {K : PySem.W.Frag} {σ : L2.St} {te : TE} {r : List Clz} {ds : List PyData} {d : PyData}
/-- what the clauses r put to the list at D -/
def InP (F : Fm) (K : PySem.W.Frag) (te : TE) (r : List Clz) (σ : L2.St) (Bz : Hp) (ds : List PyData) : Prop := ∀ (B1 H1 : Hp) (D : Addr), Ex Bz B1 → Ok F B1 H1 → H1 D = none → ∀ (acc0 : List PyData) (H' : Hp), Cq F K B1 H1 D acc0 H' → acc0.length + ds.length ≤ 16777216 → ∀ Nx : Hp → Prop, (∀ H'', Cq F K B1 H1 D (acc0 ++ ds) H'' → Nx H'') → lcIn D te r σ H' Nx
theorem in_nil {Bz : Hp} (he : ∀ B', Ex Bz B' → ED F K te σ B' d) : InP F K te [] σ Bz [d] := fun B1 H1 D eB k1 hD acc0 H' c hl Nx q => by
  obtain ⟨B', acc, s, k, hb, hd, ha⟩ := c
  have nm : ¬ F.M D := fun m => (F.lv H1 D k1.j m).ne hD
  have lv : Liv H' D := ⟨_, hd, trivial⟩
  refine he B' (eB.trans s.bb) B' (Ex.refl B') H' k _ fun y B4 H4 s4 k4 g => ⟨acc, s4.keep D _ nm hd, ?_, q _ ?_⟩
  · rw [ha.len, sizeLine_eq]
    have : acc0.length + 1 ≤ 16777216 := hl
    omega
  · exact cq_more hD k1 (s.trans s4) k4 (s4.sep D hb lv) (s4.keep D _ nm hd) (ha.up s4.bb) g
theorem flatMap_len {n : Nat} {g : Nat → List PyData} (i : Nat) (h : i ≤ n) : ((List.range i).flatMap g).length ≤ ((List.range n).flatMap g).length := by
  induction n with
  | zero =>
    obtain rfl : i = 0 := by omega
    exact Nat.le_refl _
  | succ n ih =>
    rcases Nat.lt_or_ge n i with h2 | h2
    · obtain rfl : i = n + 1 := by omega
      exact Nat.le_refl _
    · rw [List.range_succ, List.flatMap_append, List.length_append]
      exact Nat.le_trans (ih h2) (Nat.le_add_right _ _)
theorem flatMap_succ (n : Nat) (g : Nat → List PyData) : (List.range (n + 1)).flatMap g = (List.range n).flatMap g ++ g n := by
  rw [List.range_succ, List.flatMap_append, List.flatMap_cons, List.flatMap_nil, List.append_nil]
/-- for x in range(n) .. -/
theorem in_rng {Bz : Hp} {ta : TA} {n : Int} {j : Nat} {vs : List Nat} {g : Nat → List PyData} (h : ∀ B', Ex Bz B' → EDs F K ta σ B' [.int n]) (hn : -4611686018427387904 ≤ n ∧ n < 4611686018427387904) (hw : ∀ x, wipe ((wipe σ vs).set j (some x)) vs = wipe σ vs)
    (hb : ∀ i : Nat, (i : Int) < n → InP F K te r ((wipe σ vs).set j (some (.int ((i : Nat) : Int)))) Bz (g i)) : InP F K te ((iRng1 ta, gName j, (fun _ H Q => Q true H), vs) :: r) σ Bz ((List.range n.toNat).flatMap g) := fun B1 H1 D eB k1 hD acc0 H' c hl Nx q => by
  obtain ⟨B', acc, s, k, hbd, hd, ha⟩ := c
  have nm : ¬ F.M D := fun m => (F.lv H1 D k1.j m).ne hD
  have lv : Liv H' D := ⟨_, hd, trivial⟩
  refine h B' (eB.trans s.bb) B' (Ex.refl B') H' k _ fun us B2 H2 s2 k2 pv => ?_
  have hu : us = [V.int n] := ddAll_ints (k := [n]) pv
  refine ⟨n, hu, by omega, by omega, w_rng (lo := 0) (n := n.toNat) (fun i H => Cq F K B1 H1 D (acc0 ++ (List.range i).flatMap g) H) ?_ (fun i H hi c => ⟨hw _, ?_⟩) (fun H c => q _ c)⟩
  · rw [List.range_zero, List.flatMap_nil, List.append_nil]
    exact ⟨B2, acc, s.trans s2, k2, s2.sep D hbd lv, s2.keep D _ nm hd, ha.up s2.bb⟩
  · have hl2 := flatMap_len (g := g) (i + 1) (n := n.toNat) hi
    rw [flatMap_succ, List.length_append] at hl2
    show lcIn D te r ((wipe σ vs).set j (some (.int (0 + ((i : Nat) : Int))))) H _
    rw [Int.zero_add, flatMap_succ, ← List.append_assoc]
    exact hb i (by omega) B1 H1 D eB k1 hD _ H c (by rw [List.length_append]; omega) _ fun H'' c' => c'
/-- [te for x in a kept range ..] -/
theorem ed_lcRV {Bz : Hp} {tl : TE} {n : Int} {j : Nat} {vs : List Nat} {g : Nat → List PyData} (h : EV F tl σ Bz (RngV n)) (hn : -4611686018427387904 ≤ n ∧ n < 4611686018427387904) (hw : ∀ x, wipe ((wipe σ vs).set j (some x)) vs = wipe σ vs)
    (hb : ∀ i : Nat, (i : Int) < n → InP F K te r ((wipe σ vs).set j (some (.int ((i : Nat) : Int)))) Bz (g i)) (hz : ((List.range n.toNat).flatMap g).length ≤ 16777216) : ED F K (tLcN (iRngV tl) (gName j) (fun _ H Q => Q true H) r te vs) σ Bz (.list ((List.range n.toNat).flatMap g)) := fun B0 e0 H0 k0 Q q => by
  refine h B0 e0 H0 k0 _ fun v B1 H1 s1 k1 ⟨a, ea, ga⟩ => ?_
  refine ⟨a, 0, n, ea, k1.e _ _ ga, ⟨by omega, by omega, by omega, by omega⟩, fun D hD => ?_⟩
  rw [show (n - 0).toNat = n.toNat by rw [Int.sub_zero]]
  refine w_rng (lo := 0) (n := n.toNat) (fun i H => Cq F K B1 H1 D ((List.range i).flatMap g) H) ?_ (fun i H hi c => ⟨hw _, ?_⟩) (fun H c => ?_)
  · rw [List.range_zero, List.flatMap_nil]
    exact cq_start k1 hD
  · have hl2 := flatMap_len (g := g) (i + 1) (n := n.toNat) hi
    rw [flatMap_succ, List.length_append] at hl2
    show lcIn D te r ((wipe σ vs).set j (some (.int (0 + ((i : Nat) : Int))))) H _
    rw [Int.zero_add, flatMap_succ]
    exact hb i (by omega) B1 H1 D (e0.trans s1.bb) k1 hD _ H c (by omega) _ fun H'' c' => c'
  · obtain ⟨B2, s2, k2, g2⟩ := cq_done k1 hD hz c
    exact q _ B2 H (s1.trans s2) k2 g2
end
end Dx

/-! dict comprehensions over data; turns of lists and tuples -/
namespace Dx
open PySem PySem.Spec PyProof.Rows L2 Evl Cn
section
variable {K : PySem.W.Frag} {a : Addr} {xs : List V} {H1 : Hp} {Qd : Hp → Prop} {body : V → Hp → (Hp → Prop) → Prop}
/-- the turns of a list -/
theorem w_lst (I : Nat → Hp → Prop) (h0 : I 0 H1) (hl : ∀ i H, I i H → SqL K H a xs) (hs : ∀ i x H, xs[i]? = some x → I i H → body x H (I (i + 1))) (hd : ∀ H, I xs.length H → Qd H) :
    ∃ W : Nat → Nat → Hp → Prop, (∃ m, W 0 m H1) ∧ ∀ i m H, W i m H → ((Itl K a).stop i H ∧ Qd H) ∨ ((Itl K a).go i H ∧ ∃ N2 : Hp → Prop, (∀ H', N2 H' → ∃ m', m' < m ∧ W (i + 1) m' H') ∧ ∀ x H', (Itl K a).yld i H x H' → body x H' N2) := by
  refine ⟨fun i m H => m + i = xs.length ∧ I i H, ⟨xs.length, rfl, h0⟩, ?_⟩
  rintro i m H ⟨e, p⟩
  have st := hl i H p
  rcases Nat.lt_or_ge i xs.length with h | h
  · have hx : xs[i]? = some xs[i] := List.getElem?_eq_getElem h
    refine .inr ⟨⟨xs, _, st, hx⟩, I (i + 1), fun H' p' => ⟨xs.length - (i + 1), by omega, by omega, p'⟩, ?_⟩
    rintro x H' ⟨e1, e2⟩
    rw [e1]
    exact hs i x H (e2 xs st) p
  · refine .inl ⟨⟨xs, st, h⟩, hd H ?_⟩
    obtain rfl : i = xs.length := by omega
    exact p
/-- the turns of a tuple -/
theorem w_tup (I : Nat → Hp → Prop) (h0 : I 0 H1) (hl : ∀ i H, I i H → SqT K H a xs) (hs : ∀ i x H, xs[i]? = some x → I i H → body x H (I (i + 1))) (hd : ∀ H, I xs.length H → Qd H) :
    ∃ W : Nat → Nat → Hp → Prop, (∃ m, W 0 m H1) ∧ ∀ i m H, W i m H → ((Itt K a).stop i H ∧ Qd H) ∨ ((Itt K a).go i H ∧ ∃ N2 : Hp → Prop, (∀ H', N2 H' → ∃ m', m' < m ∧ W (i + 1) m' H') ∧ ∀ x H', (Itt K a).yld i H x H' → body x H' N2) := by
  refine ⟨fun i m H => m + i = xs.length ∧ I i H, ⟨xs.length, rfl, h0⟩, ?_⟩
  rintro i m H ⟨e, p⟩
  have st := hl i H p
  rcases Nat.lt_or_ge i xs.length with h | h
  · have hx : xs[i]? = some xs[i] := List.getElem?_eq_getElem h
    refine .inr ⟨⟨xs, _, st, hx⟩, I (i + 1), fun H' p' => ⟨xs.length - (i + 1), by omega, by omega, p'⟩, ?_⟩
    rintro x H' ⟨e1, e2⟩
    rw [e1]
    exact hs i x H (e2 xs st) p
  · refine .inl ⟨⟨xs, st, h⟩, hd H ?_⟩
    obtain rfl : i = xs.length := by omega
    exact p
end
section
variable {F : Fm} {K : PySem.W.Frag} {σ : L2.St} {B : Hp} {tl tk tv : TE} {j : Nat} {ds : List PyData} {vs : List Nat}
/-- the dict that grows at D -/
def Dq (F : Fm) (B1 H1 : Hp) (D : Addr) (m : Mp) (H' : Hp) : Prop := ∃ B', Step F.M B1 H1 B' H' ∧ Ok F B' H' ∧ B' D = none ∧ H' D = some (.dT (toK m))
theorem dq_start {B1 H1 : Hp} {D : Addr} (k : Ok F B1 H1) (hD : H1 D = none) : Dq F B1 H1 D [] (upd H1 D (.dT [])) := by
  have hb : B1 D = none := fresh_back k.e hD
  have s : Step F.M B1 H1 B1 (upd H1 D (.dT [])) := ⟨Ex.refl B1, fun a o h => by rw [upd_ne (ne_of_none h hb)]; exact k.e a o h, fun a o _ h => by rw [upd_ne (ne_of_none h hD)]; exact h, fun a h _ => h, fun a n => by
    rw [upd_ne (show a ≠ D from fun z => n (by rw [z]; exact hD))]
    exact n, fun a n => n.upd fun z => n.ne (z ▸ hD)⟩
  exact ⟨B1, s, k.next s (F.up _ _ (Ex.new hD) k.j), hb, upd_same⟩
theorem dq_done {B1 H1 H' : Hp} {D : Addr} {m : Mp} (k1 : Ok F B1 H1) (hD : H1 D = none) (c : Dq F B1 H1 D m H') : ∃ B2, Step F.M B1 H1 B2 H' ∧ Ok F B2 H' ∧ DicV m (.ref D) B2 := by
  obtain ⟨B', s, k, hb, hd⟩ := c
  have s2 : Step F.M B1 H1 (upd B' D (.dT (toK m))) H' := ⟨s.bb.trans (Ex.new hb), fun a o h => by
    by_cases e : a = D
    · subst e
      rw [upd_same] at h
      rw [hd]
      exact h
    · rw [upd_ne e] at h
      exact k.e a o h, s.keep, fun a h n => by
    rw [upd_ne (show a ≠ D from fun z => n.ne (by rw [z]; exact hD))]
    exact s.sep a h n, s.live, s.liv⟩
  exact ⟨_, s2, k1.next s2 k.j, D, rfl, upd_same⟩
/-- the keys as they come, each once -/
def rowM (kf : PyData → List Int) (n : Int) (ds : List PyData) : Mp := ds.map fun d => (kf d, n)
theorem pt_new {m : Mp} {k : List Int} {v : Int} (h : lkI m k = none) : ptI m k v = m ++ [(k, v)] := by
  induction m with
  | nil => rfl
  | cons p m ih =>
    have h2 := lkI_none.mp h
    unfold ptI
    rw [if_neg (h2 p List.mem_cons_self), ih (lkI_none.mpr fun q hq => h2 q (List.mem_cons_of_mem _ hq))]
    rfl
/-- {key: n for x in data} -/
theorem ev_dcD (kf : PyData → List Int) (n : Int) (h : EV F tl σ B (SqV K (DDs K ds))) (hz : ds.length ≤ 16777216) (hn : (ds.map kf).Nodup) (hw : ∀ x, wipe ((wipe σ vs).set j (some x)) vs = wipe σ vs)
    (hk : ∀ d v B1, d ∈ ds → Ex B B1 → Dd K B1 v d → EV F tk ((wipe σ vs).set j (some v)) B1 (KeyV (kf d)))
    (he : ∀ d v B1, d ∈ ds → Ex B B1 → Dd K B1 v d → ED F K tv ((wipe σ vs).set j (some v)) B1 (.int n)) :
    EV F (tDcT (iSeq K tl) (gName j) (fun _ H Q => Q true H) tk tv vs) σ B (DicV (rowM kf n ds)) := fun B0 e0 H0 k0 Q q => by
  refine h B0 e0 H0 k0 _ fun v B1 H1 s1 k1 pv => ?_
  obtain ⟨l, us, rfl, hl, ps⟩ := pv
  have ps' : DdAll K B1 us ds := ps
  have turn : ∀ (D : Addr), H1 D = none → ∀ i x H', us[i]? = some x → Dq F B1 H1 D (rowM kf n (ds.take i)) H' → gName j x (wipe σ vs) H' fun σ2 H2 => wipe σ2 vs = wipe σ vs ∧ (fun (_ : L2.St) H (Q : Bool → Hp → Prop) => Q true H) σ2 H2 fun b H3 =>
      if b = true then tk σ2 H3 fun y H4 => tv σ2 H4 fun z H5 => ∃ (kvs : List (List Key × V)) (k : List Key) (c : Addr), y = .ref c ∧ H5 c = some (.tup (k.map kV)) ∧ H5 D = some (.dT kvs) ∧ kvs.length < sizeLine ∧ Dq F B1 H1 D (rowM kf n (ds.take (i + 1))) (upd H5 D (.dT (putK kvs k z))) else Dq F B1 H1 D (rowM kf n (ds.take (i + 1))) H3 := by
    intro D hD i x H' hx c
    obtain ⟨d, hd, hdv⟩ := ps'.getv hx
    have hm : d ∈ ds := List.mem_of_getElem? hd
    have hi : i < ds.length := (List.getElem?_eq_some_iff.mp hd).1
    refine ⟨hw x, ?_⟩
    show tk ((wipe σ vs).set j (some x)) H' _
    obtain ⟨B', s, k, hb, hd3⟩ := c
    have nm : ¬ F.M D := fun m => (F.lv H1 D k1.j m).ne hD
    have lv : Liv H' D := ⟨_, hd3, trivial⟩
    refine hk d x B' hm ((e0.trans s1.bb).trans s.bb) (hdv.up s.bb) B' (Ex.refl B') H' k _ fun y B4 H4 s4 k4 ⟨cA, ey, gc⟩ => ?_
    refine he d x B4 hm (((e0.trans s1.bb).trans s.bb).trans s4.bb) (hdv.up (s.bb.trans s4.bb)) B4 (Ex.refl B4) H4 k4 _ fun z B5 H5 s5 k5 gz => ?_
    obtain rfl := dd_int gz
    have hd5 : H5 D = some (.dT (toK (rowM kf n (ds.take i)))) := s5.keep D _ nm (s4.keep D _ nm hd3)
    have lv4 : Liv H4 D := s4.liv D lv
    have hb5 : B5 D = none := s5.sep D (s4.sep D hb lv) lv4
    refine ⟨_, kI (kf d), cA, ey, by rw [kV_kI]; exact k5.e _ _ (s5.bb _ _ gc), hd5, ?_, ?_⟩
    · rw [sizeLine_eq]
      show (List.map _ (List.map _ (ds.take i))).length < _
      rw [List.length_map, List.length_map, List.length_take]
      omega
    · have hnd : Nd (rowM kf n (ds.take i)) := by
        unfold Nd rowM
        rw [List.map_map]
        have : (ds.take i).map ((fun x : List Int × Int => x.1) ∘ fun d => (kf d, n)) = (ds.map kf).take i := by rw [List.map_take]; rfl
        rw [this]
        exact hn.sublist (List.take_sublist _ _)
      have hno : lkI (rowM kf n (ds.take i)) (kf d) = none := lkI_none.mpr fun p hp => by
        obtain ⟨d', hd', rfl⟩ := List.mem_map.mp hp
        obtain ⟨j', hj', e'⟩ := List.getElem_of_mem hd'
        rw [List.length_take] at hj'
        intro ee
        have h1 : (ds.map kf)[j']? = some (kf d') := by
          rw [List.getElem?_map, ← e', List.getElem_take, List.getElem?_eq_getElem (by omega)]
          rfl
        have h2 : (ds.map kf)[i]? = some (kf d) := by rw [List.getElem?_map, hd]; rfl
        have h3 := (List.getElem?_inj (by rw [List.length_map]; omega) hn).mp ((h1.trans (congrArg some ee)).trans h2.symm)
        omega
      rw [put_toK hnd, pt_new hno]
      have e2 : rowM kf n (ds.take (i + 1)) = rowM kf n (ds.take i) ++ [(kf d, n)] := by
        unfold rowM
        rw [take_snoc hd, List.map_append]
        rfl
      rw [e2]
      have st : Step F.M B1 H1 B5 H5 := (s.trans s4).trans s5
      have s6 : Step F.M B1 H1 B5 (upd H5 D (.dT (toK (rowM kf n (ds.take i) ++ [(kf d, n)])))) := ⟨st.bb, fun a o h => by rw [upd_ne (ne_of_none h hb5)]; exact k5.e a o h, fun a o n h => by rw [upd_ne (ne_of_none h hD)]; exact st.keep a o n h, st.sep, fun a n => by
        rw [upd_ne (show a ≠ D from fun z => n (by rw [z]; exact hD))]
        exact st.live a n, fun a n => (st.liv a n).upd fun z => n.ne (z ▸ hD)⟩
      exact ⟨B5, s6, k1.next s6 (F.fr H5 D _ k5.j nm), hb5, upd_same⟩
  have fin : ∀ (D : Addr), H1 D = none → ∀ H', Dq F B1 H1 D (rowM kf n (ds.take us.length)) H' → Q (.ref D) H' := by
    intro D hD H' c
    rw [ps'.len, List.take_length] at c
    obtain ⟨B2, s2, k2, g2⟩ := dq_done k1 hD c
    exact q _ B2 H' (s1.trans s2) k2 g2
  refine ⟨l, rfl, ?_⟩
  rcases hl with hl | hl
  · refine .inl ⟨⟨us, ex_l k1.e hl⟩, fun D hD => w_lst (K := K) (xs := us) (fun i => Dq F B1 H1 D (rowM kf n (ds.take i))) (dq_start k1 hD) (fun i H' c => ?_) (fun i x H' hx c => turn D hD i x H' hx c) (fun H' c => fin D hD H' c)⟩
    obtain ⟨B', s, k, _⟩ := c
    exact ex_l k.e (ex_l s.bb hl)
  · refine .inr ⟨⟨us, ex_t k1.e hl⟩, fun D hD => w_tup (K := K) (xs := us) (fun i => Dq F B1 H1 D (rowM kf n (ds.take i))) (dq_start k1 hD) (fun i H' c => ?_) (fun i x H' hx c => turn D hD i x H' hx c) (fun H' c => fin D hD H' c)⟩
    obtain ⟨B', s, k, _⟩ := c
    exact ex_t k.e (ex_t s.bb hl)
end
end Dx

/-! loops whose word speaks of the slots, the data and the heap: ranges, data -/
namespace Dx
open PySem PySem.Spec PyProof.Rows L2 Evl
section
variable {F : Fm} {K : PySem.W.Frag} {σ : L2.St} {B H : Hp} {D : Ends} {tb tz : TS} {tl te : TE} {j : Nat} {ds : List PyData}
/-- where a turn goes on -/
def Nx (Bb : Hp) (J : L2.St → Hp → Hp → Prop) : L2.St → Hp → Prop := fun σ2 H2 => ∃ B2, Ex Bb B2 ∧ J σ2 B2 H2
theorem os_rng2 {ta : TA} {lo n : Int} (ok : Ok F B H) (h : EDs F K ta σ B [.int lo, .int n]) (hn : (-4611686018427387904 ≤ lo ∧ lo < 4611686018427387904) ∧ -4611686018427387904 ≤ n ∧ n < 4611686018427387904) (J : Nat → L2.St → Hp → Hp → Prop) (h0 : ∀ B1 H1, Step F.M B H B1 H1 → Ok F B1 H1 → J 0 σ B1 H1)
    (hs : ∀ Bb (i : Nat) σ' B1 H1, Ex B Bb → lo + (i : Int) < n → Ex Bb B1 → J i σ' B1 H1 → tb { D with nx := Nx Bb (J (i + 1)), ct := Nx Bb (J (i + 1)), bk := D.nx } (σ'.set j (some (.int (lo + (i : Int))))) H1)
    (hd : ∀ σ' B1 H1, Ex B B1 → J (n - lo).toNat σ' B1 H1 → D.nx σ' H1) : tFor (iRng2 ta) (gName j) tb D σ H := by
  refine h B (Ex.refl B) H ok _ fun vs B1 H1 s1 k1 p => ?_
  obtain rfl := dds2 p
  exact ⟨lo, n, rfl, ⟨by omega, by omega, by omega, by omega⟩, for_range (lo := lo) (n := (n - lo).toNat) (fun i => Nx B1 (J i)) ⟨B1, Ex.refl B1, h0 B1 H1 s1 k1⟩ (fun i σ' H' hi ⟨B2, e2, q⟩ => hs B1 i σ' B2 H' s1.bb (by omega) e2 q) fun σ' H' ⟨B2, e2, q⟩ => hd σ' B2 H' (s1.bb.trans e2) q⟩
theorem os_rng1 {ta : TA} {n : Int} (ok : Ok F B H) (h : EDs F K ta σ B [.int n]) (hn : -4611686018427387904 ≤ n ∧ n < 4611686018427387904) (J : Nat → L2.St → Hp → Hp → Prop) (h0 : ∀ B1 H1, Step F.M B H B1 H1 → Ok F B1 H1 → J 0 σ B1 H1)
    (hs : ∀ Bb (i : Nat) σ' B1 H1, Ex B Bb → (i : Int) < n → Ex Bb B1 → J i σ' B1 H1 → tb { D with nx := Nx Bb (J (i + 1)), ct := Nx Bb (J (i + 1)), bk := D.nx } (σ'.set j (some (.int (i : Int)))) H1)
    (hd : ∀ σ' B1 H1, Ex B B1 → J n.toNat σ' B1 H1 → D.nx σ' H1) : tFor (iRng1 ta) (gName j) tb D σ H := by
  refine h B (Ex.refl B) H ok _ fun vs B1 H1 s1 k1 p => ?_
  have p' : vs = [V.int n] := ddAll_ints (k := [n]) p
  refine ⟨n, p', by omega, by omega, for_range (lo := 0) (n := n.toNat) (fun i => Nx B1 (J i)) ⟨B1, Ex.refl B1, h0 B1 H1 s1 k1⟩ (fun i σ' H' hi ⟨B2, e2, q⟩ => ?_) fun σ' H' ⟨B2, e2, q⟩ => hd σ' B2 H' (s1.bb.trans e2) q⟩
  show tb _ (σ'.set j (some (.int ((0 : Int) + (i : Int))))) H'
  rw [Int.zero_add]
  exact hs B1 i σ' B2 H' s1.bb (by omega) e2 q
theorem oq_rng2 {ta : TA} {lo n : Int} (ok : Ok F B H) (h : EDs F K ta σ B [.int lo, .int n]) (hn : (-4611686018427387904 ≤ lo ∧ lo < 4611686018427387904) ∧ -4611686018427387904 ≤ n ∧ n < 4611686018427387904) (J : Nat → L2.St → Hp → Hp → Prop) (h0 : ∀ B1 H1, Step F.M B H B1 H1 → Ok F B1 H1 → J 0 σ B1 H1)
    (hs : ∀ Bb (i : Nat) σ' B1 H1, Ex B Bb → lo + (i : Int) < n → Ex Bb B1 → J i σ' B1 H1 → tb { D with nx := Nx Bb (J (i + 1)), ct := Nx Bb (J (i + 1)), bk := tz D } (σ'.set j (some (.int (lo + (i : Int))))) H1)
    (hd : ∀ σ' B1 H1, Ex B B1 → J (n - lo).toNat σ' B1 H1 → tz D σ' H1) : tSeq (tFor (iRng2 ta) (gName j) tb) tz D σ H := os_rng2 (D := { D with nx := tz D }) ok h hn J h0 hs hd
theorem oq_rng1 {ta : TA} {n : Int} (ok : Ok F B H) (h : EDs F K ta σ B [.int n]) (hn : -4611686018427387904 ≤ n ∧ n < 4611686018427387904) (J : Nat → L2.St → Hp → Hp → Prop) (h0 : ∀ B1 H1, Step F.M B H B1 H1 → Ok F B1 H1 → J 0 σ B1 H1)
    (hs : ∀ Bb (i : Nat) σ' B1 H1, Ex B Bb → (i : Int) < n → Ex Bb B1 → J i σ' B1 H1 → tb { D with nx := Nx Bb (J (i + 1)), ct := Nx Bb (J (i + 1)), bk := tz D } (σ'.set j (some (.int (i : Int)))) H1)
    (hd : ∀ σ' B1 H1, Ex B B1 → J n.toNat σ' B1 H1 → tz D σ' H1) : tSeq (tFor (iRng1 ta) (gName j) tb) tz D σ H := os_rng1 (D := { D with nx := tz D }) ok h hn J h0 hs hd
/-- over what stands as a list or tuple of data -/
theorem os_forD {g : TG} (ok : Ok F B H) (h : EV F tl σ B (SqV K (DDs K ds))) (J : Nat → L2.St → Hp → Hp → Prop) (hj : ∀ i σ B H, J i σ B H → Ex B H) (h0 : ∀ B1 H1, Step F.M B H B1 H1 → Ok F B1 H1 → J 0 σ B1 H1)
    (hs : ∀ Bb n d v σ' B1 H1, ds[n]? = some d → Ex B Bb → Ex Bb B1 → Dd K B1 v d → J n σ' B1 H1 → g v σ' H1 fun σ2 H2 => tb { D with nx := Nx Bb (J (n + 1)), ct := Nx Bb (J (n + 1)), bk := D.nx } σ2 H2)
    (hd : ∀ σ' B1 H1, Ex B B1 → J ds.length σ' B1 H1 → D.nx σ' H1) : tFor (iSeq K tl) g tb D σ H := by
  refine h B (Ex.refl B) H ok _ fun v B1 H1 s1 k1 pv => ?_
  obtain ⟨l, vs, rfl, hl, ps⟩ := pv
  have ps' : DdAll K B1 vs ds := ps
  have turn : ∀ n x σ' H', vs[n]? = some x → Nx B1 (J n) σ' H' → g x σ' H' fun σ2 H2 => tb { D with nx := Nx B1 (J (n + 1)), ct := Nx B1 (J (n + 1)), bk := D.nx } σ2 H2 := by
    rintro n x σ' H' hx ⟨B2, e2, q⟩
    obtain ⟨d, hd, hdv⟩ := ps'.getv hx
    exact hs B1 n d x σ' B2 H' hd s1.bb e2 (hdv.up e2) q
  have fin : ∀ σ' H', Nx B1 (J vs.length) σ' H' → D.nx σ' H' := fun σ' H' ⟨B2, e2, q⟩ => hd σ' B2 H' (s1.bb.trans e2) (by rw [← ps'.len]; exact q)
  refine ⟨l, rfl, ?_⟩
  rcases hl with hl | hl
  · exact .inl ⟨⟨vs, ex_l k1.e hl⟩, for_list (K := K) (xs := vs) (fun n => Nx B1 (J n)) ⟨B1, Ex.refl B1, h0 B1 H1 s1 k1⟩ (fun n σ' H' _ ⟨B2, e, q⟩ => ex_l (hj _ _ _ _ q) (ex_l e hl)) turn fin⟩
  · exact .inr ⟨⟨vs, ex_t k1.e hl⟩, for_tup (K := K) (xs := vs) (fun n => Nx B1 (J n)) ⟨B1, Ex.refl B1, h0 B1 H1 s1 k1⟩ (fun n σ' H' _ ⟨B2, e, q⟩ => ex_t (hj _ _ _ _ q) (ex_t e hl)) turn fin⟩
theorem oq_forD {g : TG} (ok : Ok F B H) (h : EV F tl σ B (SqV K (DDs K ds))) (J : Nat → L2.St → Hp → Hp → Prop) (hj : ∀ i σ B H, J i σ B H → Ex B H) (h0 : ∀ B1 H1, Step F.M B H B1 H1 → Ok F B1 H1 → J 0 σ B1 H1)
    (hs : ∀ Bb n d v σ' B1 H1, ds[n]? = some d → Ex B Bb → Ex Bb B1 → Dd K B1 v d → J n σ' B1 H1 → g v σ' H1 fun σ2 H2 => tb { D with nx := Nx Bb (J (n + 1)), ct := Nx Bb (J (n + 1)), bk := tz D } σ2 H2)
    (hd : ∀ σ' B1 H1, Ex B B1 → J ds.length σ' B1 H1 → tz D σ' H1) : tSeq (tFor (iSeq K tl) g tb) tz D σ H := os_forD (D := { D with nx := tz D }) ok h J hj h0 hs hd
end
/-! ### a list of one's own of ints, read while it stands -/
section
variable {K : PySem.W.Frag} {B0 H0 B H B5 H5 : Hp} {na : Addr} {xs : List V} {σ : L2.St} {te : TE} {t : TT} {tu tw tz : TS} {b : Bool} {i : Nat} {D : Ends} {P : PV}
/-- what stands at x stands just so, and is one's own -/
def Fm.mine (x : Addr) (o : HO) (ho : nT o := by trivial) : Fm := ⟨fun a => a = x, fun H => H x = some o, fun _ _ e h => e _ _ h, fun H a h e => ⟨o, by rw [show a = x from e]; exact h, ho⟩, fun H a o' h n => (by rw [upd_ne (Ne.symm n)]; exact h)⟩
theorem S1.obk (m : S1 B0 H0 B H na xs) : Ok (Fm.mine na (.lst xs)) B H := ⟨m.st.bh, m.hn, fun a e => by rw [show a = na from e]; exact m.bn⟩
theorem step_mine {fa : Addr} (h0 : H0 fa = none) (s : Step (fun _ => False) B0 H0 B H) (t : Step (fun a => a = fa) B H B5 H5) : Step (fun _ => False) B0 H0 B5 H5 :=
  ⟨s.bb.trans t.bb, t.bh, fun a o n h => t.keep a o (fun z => by rw [z, h0] at h; cases h) (s.keep a o n h), fun a h n => t.sep a (s.sep a h n) (s.liv a n), fun a n => t.live a (s.live a n), fun a n => t.liv a (s.liv a n)⟩
theorem S1.obp (m : S1 B0 H0 B H na xs) (s : Step (fun a => a = na) B H B5 H5) (k : Ok (Fm.mine na (.lst xs)) B5 H5) : S1 B0 H0 B5 H5 na xs := ⟨step_mine m.n0 m.st s, m.n0, k.av na rfl, k.j⟩
theorem os_if (m : S1 B0 H0 B H na xs) (h : ETt (Fm.mine na (.lst xs)) t σ B b) (h1 : b = true → ∀ B5 H5, S1 B0 H0 B5 H5 na xs → Ex B B5 → tu D σ H5) (h2 : b = false → ∀ B5 H5, S1 B0 H0 B5 H5 na xs → Ex B B5 → tw D σ H5) : tIfS t tu tw D σ H := h B (Ex.refl B) H m.obk _ fun B5 H5 s5 k5 => by
  cases b with
  | true =>
    show tu D σ H5
    exact h1 rfl B5 H5 (m.obp s5 k5) s5.bb
  | false =>
    show tw D σ H5
    exact h2 rfl B5 H5 (m.obp s5 k5) s5.bb
theorem oq_asg (m : S1 B0 H0 B H na xs) (h : EV (Fm.mine na (.lst xs)) te σ B P) (k : ∀ v B5 H5, S1 B0 H0 B5 H5 na xs → Ex B B5 → P v B5 → tz D (σ.set i (some v)) H5) : tSeq (tAsg te (gName i)) tz D σ H := h B (Ex.refl B) H m.obk _ fun v B5 H5 s5 k5 p => k v B5 H5 (m.obp s5 k5) s5.bb p
/-- k in found, k not in found: found the list of ints that grows -/
theorem et_ninI {S : List Int} {x : Int} (hi : σ[i]? = some (some (.ref na))) (h : ED (Fm.mine na (.lst xs)) K te σ B (.int x)) (hx : xs = S.map V.int) : ETt (Fm.mine na (.lst xs)) (tTest (tOp (rIn K true) te (tVar i))) σ B (!S.contains x) := fun B1 e0 H j Q q =>
  h B1 e0 H j _ fun v B2 H2 s2 j2 g => by
    obtain rfl := dd_int g
    refine ⟨.ref na, hi, na, xs, rfl, .inl (sq_of j2.j), rfl, ?_, _, rfl, ?_⟩
    · rw [hx]
      exact List.all_eq_true.mpr fun y hy => by
        obtain ⟨s, _, rfl⟩ := List.mem_map.mp hy
        rfl
    · have e : inV (.int x) xs = S.contains x := by
        rw [hx]
        unfold inV
        rw [List.any_map]
        rw [Bool.eq_iff_iff, List.any_eq_true, List.contains_iff_mem]
        constructor
        · rintro ⟨y, hy, e⟩
          have e' : y = x := by simpa [eqV] using e
          exact e' ▸ hy
        · intro hx
          exact ⟨x, hx, by simp [eqV]⟩
      show Q (!inV (.int x) xs) H2
      rw [e]
      exact q B2 H2 s2 j2
end
end Dx

/-! sorted of dicts keyed by tuples of ints, of lists of tuples of ints, as data -/
namespace Dx
open PySem PySem.Spec PyProof.Rows L2 Evl
def isIs (xs : List V) : Bool := xs.all fun v => match v with | .int _ => true | _ => false
theorem isIs_map (k : List Int) : isIs (k.map V.int) = true := by
  unfold isIs
  rw [List.all_map]
  exact List.all_eq_true.mpr fun _ _ => rfl
/-- the data, and every tuple of ints that stands -/
def seeT (B H : Hp) : Hp := fun a => match B a with
  | some o => some o
  | none => match H a with
    | some (.tup xs) => if isIs xs = true then some (.tup xs) else none
    | _ => none
section
variable {F : Fm} {M : Addr → Prop} {B H : Hp}
theorem see_old : Ex B (seeT B H) := fun a o h => by
  unfold seeT
  rw [h]
theorem see_in (e : Ex B H) : Ex (seeT B H) H := fun a o h => by
  unfold seeT at h
  cases hb : B a with
  | some u =>
    rw [hb] at h
    have h' : some u = some o := h
    rw [← h']
    exact e _ _ hb
  | none =>
    rw [hb] at h
    cases hh : H a with
    | none =>
      rw [hh] at h
      cases h
    | some u =>
      rw [hh] at h
      cases u with
      | tup xs =>
        have h' : (if isIs xs = true then some (HO.tup xs) else none) = some o := h
        split at h'
        · exact h'
        · cases h'
      | _ => cases h
theorem see_at {a : Addr} {k : List Int} (e : Ex B H) (h : H a = some (.tup (k.map V.int))) : seeT B H a = some (.tup (k.map V.int)) := by
  unfold seeT
  cases hb : B a with
  | some u =>
    show some u = _
    rw [← e _ _ hb]
    exact h
  | none =>
    show (match H a with | some (.tup xs) => if isIs xs = true then some (HO.tup xs) else none | _ => none) = _
    rw [h]
    show (if isIs (k.map V.int) = true then some (HO.tup (k.map V.int)) else none) = _
    rw [if_pos (isIs_map k)]
theorem see_no {a : Addr} (h : B a = none) (n : Liv H a) : seeT B H a = none := by
  obtain ⟨o, ho, hn⟩ := n
  unfold seeT
  rw [h]
  show (match H a with | some (.tup xs) => if isIs xs = true then some (HO.tup xs) else none | _ => none) = _
  rw [ho]
  cases o with
  | tup xs => cases hn
  | _ => rfl
theorem see_step (e : Ex B H) : Step M B H (seeT B H) H := ⟨see_old, see_in e, fun _ _ _ h => h, fun a h n => see_no h n, fun _ h => h, fun _ h => h⟩
theorem Ok.see (k : Ok F B H) : Ok F (seeT B H) H := k.next (see_step k.e) k.j
end
/-- a tuple of ints, as data -/
def rowD (k : List Int) : PyData := .tuple (k.map .int)
theorem dd_rowD {K : PySem.W.Frag} {B : Hp} {a : Addr} {k : List Int} (h : B a = some (.tup (k.map V.int))) (hl : k.length ≤ 1000) : Dd K B (.ref a) (rowD k) := .tup (.inl h) (by rw [List.length_map, sizeLine_eq]; omega) (by
  clear h hl
  induction k with
  | nil => exact .nil
  | cons x k ih => exact .cons (.int x) ih)
theorem paired_dd {K : PySem.W.Frag} {B H : Hp} (e : Ex B H) : ∀ {ys : List V} {zs : List (List Int)}, Paired (fun y z => ∃ t, y = V.ref t ∧ H t = some (.tup (z.map V.int))) ys zs → (∀ z ∈ zs, z.length ≤ 1000) → DdAll K (seeT B H) ys (zs.map rowD)
  | _, _, .nil, _ => .nil
  | _, _, .cons (b := z) ⟨t, et, ht⟩ r, hl => by
    rw [et]
    exact .cons (dd_rowD (see_at e ht) (hl z List.mem_cons_self)) (paired_dd e r fun z hz => hl z (List.mem_cons_of_mem _ hz))
theorem bt_sorted : bootBuiltins "sorted" = some (.builtin "sorted") := by decide +kernel
theorem cr_sortDTK {X : Cx} (K : PySem.W.Frag) (hc : X.calm = true) : CallR X (.builtin "sorted") (rSortDT 5) := cr_sortDT (by decide) hc
theorem cr_sortTIK {X : Cx} (K : PySem.W.Frag) (hK : X.K = K := by rfl) : CallR X (.builtin "sorted") (rSortTI K 5) := cr_sortTI K (by decide) hK
section
variable {F : Fm} {K : PySem.W.Frag} {σ : L2.St} {B : Hp} {te : TE} {m : Mp} {n : Nat}
/-- what is in ascending order -/
abbrev Asc (zs : List (List Int)) : Prop := zs.Pairwise fun x y => HT.lexLt y x = false
theorem ev_sortD (h : EV F te σ B (DicV m)) (hn : ∀ p ∈ m, p.1.length = n) (hl : n ≤ 1000) (hz : m.length ≤ 16777216) : EV F (tCB (rSortDT n) (tCons te tNil)) σ B (fun v B' => ∃ zs : List (List Int), zs.Perm (m.map (·.1)) ∧ Asc zs ∧ Dd K B' v (.list (zs.map rowD))) := fun B1 e0 H1 k1 Q q =>
  h B1 e0 H1 k1 _ fun v B2 H2 s2 k2 ⟨a, ea, ga⟩ => by
    refine ⟨a, toK m, m.map (·.1), by rw [ea], k2.e _ _ ga, ?_, fun k hk => ?_, fun ys zs p hp hs hpr hnew => ?_⟩
    · unfold toK
      rw [List.map_map, List.map_map]
      rfl
    · obtain ⟨p, hp, rfl⟩ := List.mem_map.mp hk
      exact hn p hp
    · have k3 : Ok F (seeT B2 H2) H2 := k2.see
      have hlen : zs.length ≤ 16777216 := by
        rw [hp.length_eq, List.length_map]
        exact hz
      have hzl : ∀ z ∈ zs, z.length ≤ 1000 := fun z hz => by
        obtain ⟨p, hp', rfl⟩ := List.mem_map.mp (hp.mem_iff.mp hz)
        rw [hn p hp']
        exact hl
      have dd := paired_dd (K := K) k2.e hpr hzl
      refine q (.ref p) _ _ ((s2.trans (see_step k2.e)).trans (Step.alloc k3.e hnew)) (k3.alloc hnew) ⟨zs, hp, hs, .lst upd_same ?_ (dd.up (Ex.new (fresh_back k3.e hnew)))⟩
      rw [dd.len, List.length_map, sizeLine_eq]
      exact hlen
theorem ddAll_perm : ∀ {xs ys : List V}, ys.Perm xs → ∀ {ds : List PyData}, DdAll K B xs ds → ∃ es, es.Perm ds ∧ DdAll K B ys es := by
  intro xs ys p
  induction p with
  | nil =>
    intro ds h
    exact ⟨ds, .refl _, h⟩
  | cons x p ih =>
    intro ds h
    cases h with
    | cons a t =>
      obtain ⟨es, pe, he⟩ := ih t
      exact ⟨_ :: es, pe.cons _, .cons a he⟩
  | swap x y l =>
    intro ds h
    cases h with
    | cons a t =>
      cases t with
      | cons b t => exact ⟨_, .swap _ _ _, .cons b (.cons a t)⟩
  | trans p1 p2 ih1 ih2 =>
    intro ds h
    obtain ⟨es, pe, he⟩ := ih2 h
    obtain ⟨fs, pf, hf⟩ := ih1 he
    exact ⟨fs, pf.trans pe, hf⟩
/-- sorted([..]), the items tuples of d ints: the same items in some order -/
theorem ev_sortL {d : Nat} {zs : List (List Int)} (h : ED F K te σ B (.list (zs.map rowD))) (hd : ∀ z ∈ zs, z.length = d) : EV F (tCB (rSortTI K d) (tCons te tNil)) σ B (fun v B' => ∃ es : List PyData, es.Perm (zs.map rowD) ∧ Dd K B' v (.list es)) := fun B1 e0 H1 k1 Q q =>
  h B1 e0 H1 k1 _ fun v B2 H2 s2 k2 g => by
    obtain ⟨a, xs, rfl, h1, l1, g1⟩ := dd_lst g
    have ex : ∀ x ∈ xs, ∃ ns, TupI K H2 x ns ∧ ns.length = d := fun x hx => by
      obtain ⟨i, hi, rfl⟩ := List.getElem_of_mem hx
      obtain ⟨y, hy, hdd⟩ := g1.getv (List.getElem?_eq_getElem hi)
      rw [List.getElem?_map] at hy
      obtain ⟨z, hz, rfl⟩ := Option.map_eq_some_iff.mp hy
      obtain ⟨t, us, et, ht, _, hu⟩ := dd_tup (show Dd K B2 xs[i] (.tuple (z.map .int)) from hdd)
      rw [ddAll_ints hu] at ht
      exact ⟨z, ⟨t, et, ex_t k2.e ht⟩, hd z (List.mem_of_getElem? hz)⟩
    refine ⟨a, xs, fun x => Classical.epsilon fun ns => TupI K H2 x ns ∧ ns.length = d, rfl, sq_of (k2.e _ _ h1), fun x hx => ?_, fun ys p hp _ hnew => ?_⟩
    · exact Classical.epsilon_spec (ex x hx)
    · obtain ⟨es, pe, he⟩ := ddAll_perm hp g1
      refine q (.ref p) _ _ (s2.trans (Step.alloc k2.e hnew)) (k2.alloc hnew) ⟨es, pe, .lst upd_same ?_ (he.up (Ex.new (fresh_back k2.e hnew)))⟩
      rw [hp.length_eq]
      exact l1
end
end Dx

/-! a dict of one's own: statements that leave it, what is handed over; pairs taken apart -/
namespace Dx
open PySem PySem.Spec PyProof.Rows L2 Evl
section
variable {K : PySem.W.Frag} {B0 H0 B H B5 H5 : Hp} {na : Addr} {m : Mp} {σ : L2.St} {te tl : TE} {t : TT} {tu tw tz : TS} {D : Ends} {i : Nat} {P : PV} {b : Bool}
theorem qd_asg (d : D1 B0 H0 B H na m) (h : EV Fm.pure te σ B P) (k : ∀ v B5 H5, D1 B0 H0 B5 H5 na m → Ex B B5 → P v B5 → tz D (σ.set i (some v)) H5) : tSeq (tAsg te (gName i)) tz D σ H := h B (Ex.refl B) H d.ok _ fun v B5 H5 s5 _ p => k v B5 H5 (d.pass s5) s5.bb p
theorem sd_ifB (d : D1 B0 H0 B H na m) (h : ETt Fm.pure t σ B b) (h1 : b = true → ∀ B5 H5, D1 B0 H0 B5 H5 na m → Ex B B5 → tu D σ H5) (h2 : b = false → ∀ B5 H5, D1 B0 H0 B5 H5 na m → Ex B B5 → tw D σ H5) : tIfS t tu tw D σ H := h B (Ex.refl B) H d.ok _ fun B5 H5 s5 _ => by
  cases b with
  | true =>
    show tu D σ H5
    exact h1 rfl B5 H5 (d.pass s5) s5.bb
  | false =>
    show tw D σ H5
    exact h2 rfl B5 H5 (d.pass s5) s5.bb
theorem D1.data (d : D1 B0 H0 B H na m) : Step (fun _ => False) B0 H0 (upd B na (.dT (toK m))) H ∧ DicV m (.ref na) (upd B na (.dT (toK m))) := by
  refine ⟨⟨d.st.bb.trans (Ex.new d.bn), d.shut.2.1.e, d.st.keep, fun a h n => ?_, d.st.live, d.st.liv⟩, na, rfl, upd_same⟩
  rw [upd_ne (show a ≠ na from fun z => n.ne (z ▸ d.n0))]
  exact d.st.sep a h n
end
/-- a, b = a pair -/
theorem qv_unpP {F : Fm} {K : PySem.W.Frag} {σ : L2.St} {B0 H0 B H : Hp} {D : Ends} {tz : TS} {te : TE} {x y : PyData} {p1 p2 : Nat} (a : At F B0 H0 B H) (h : ED F K te σ B (.tuple [x, y]))
    (q : ∀ u v B1 H1, Ex B B1 → At F B0 H0 B1 H1 → Dd K B1 u x → Dd K B1 v y → tz D ((σ.set p1 (some u)).set p2 (some v)) H1) :
    tSeq (tAsg te (gTup K 2 (gCons (gName p1) (gCons (gName p2) gNil)))) tz D σ H := h B (Ex.refl B) H a.j _ fun w B1 H1 s jj p => by
  obtain ⟨b, us, rfl, hb, _, hus⟩ := dd_tup p
  cases hus with
  | cons hu t =>
    cases t with
    | cons hv t =>
      cases t
      exact ⟨b, _, rfl, ex_t jj.e hb, rfl, _, _, rfl, _, _, rfl, rfl, q _ _ B1 H1 s.bb (a.next s jj) hu hv⟩
end Dx

/-! objects of one's own, any number of them: lists and dicts that change -/
namespace Dx
open PySem PySem.Spec PyProof.Rows L2 Evl
/-- behind (B0, H0): at (B, H), where the objects L are one's own and stand just so -/
structure Ow (F : Fm) (B0 H0 B H : Hp) (L : List (Addr × HO)) : Prop where
  st : Step F.M B0 H0 B H
  k : Ok F B H
  ow : ∀ p ∈ L, H0 p.1 = none ∧ ¬ F.M p.1 ∧ B p.1 = none ∧ H p.1 = some p.2 ∧ nT p.2
  nd : (L.map (·.1)).Nodup
section
variable {F : Fm} {B0 H0 B H B5 H5 : Hp} {L : List (Addr × HO)} {a b : Addr} {o o' u : HO}
theorem ow_nil (k : Ok F B H) : Ow F B H B H [] := ⟨Step.refl k.e, k, fun p hp => (nomatch hp), List.nodup_nil⟩
theorem Ow.pass (w : Ow F B0 H0 B H L) (s : Step F.M B H B5 H5) (k5 : Ok F B5 H5) : Ow F B0 H0 B5 H5 L := ⟨w.st.trans s, k5, fun p hp => by
  obtain ⟨h0, nm, hb, hh, hn⟩ := w.ow p hp
  exact ⟨h0, nm, s.sep _ hb ⟨_, hh, hn⟩, s.keep _ _ nm hh, hn⟩, w.nd⟩
theorem Ow.ne (w : Ow F B0 H0 B H ((a, o) :: L)) {p : Addr × HO} (hp : p ∈ L) : p.1 ≠ a := fun e =>
  (List.nodup_cons.mp (show (a :: L.map (·.1)).Nodup from w.nd)).1 (e ▸ List.mem_map.mpr ⟨p, hp, rfl⟩)
theorem Ow.set (w : Ow F B0 H0 B H ((a, o) :: L)) (o' : HO) (hn : nT o') : Ow F B0 H0 B (L2.upd H a o') ((a, o') :: L) := by
  obtain ⟨h0, nm, hb, hh, _⟩ := w.ow (a, o) List.mem_cons_self
  have eB : Ex B (L2.upd H a o') := fun x u h => by
    rw [upd_ne (ne_of_none h hb)]
    exact w.k.e x u h
  refine ⟨⟨w.st.bb, eB, fun x u n h => ?_, w.st.sep, fun x n => ?_, fun x n => ?_⟩, ⟨eB, F.fr H a o' w.k.j nm, w.k.av⟩, fun p hp => ?_, w.nd⟩
  · rw [upd_ne (ne_of_none h h0)]
    exact w.st.keep x u n h
  · rw [upd_ne (show x ≠ a from fun z => n (z ▸ h0))]
    exact w.st.live x n
  · exact (w.st.liv x n).upd fun z => n.ne (z ▸ h0)
  · rcases List.mem_cons.mp hp with rfl | hp
    · exact ⟨h0, nm, hb, upd_same, hn⟩
    · obtain ⟨g0, gm, gb, gh, gn⟩ := w.ow p (List.mem_cons_of_mem _ hp)
      exact ⟨g0, gm, gb, by rw [upd_ne (w.ne hp)]; exact gh, gn⟩
theorem Ow.new (w : Ow F B0 H0 B H L) (ha : H a = none) (hn : nT o) : Ow F B0 H0 B (L2.upd H a o) ((a, o) :: L) := by
  have h0 : H0 a = none := by
    cases hh : H0 a with
    | none => rfl
    | some u => exact absurd ha (w.st.live a (by rw [hh]; exact fun z => nomatch z))
  have nm : ¬ F.M a := fun m => (F.lv H a w.k.j m).ne ha
  have hb : B a = none := fresh_back w.k.e ha
  have eB : Ex B (L2.upd H a o) := fun x u h => by
    rw [upd_ne (ne_of_none h hb)]
    exact w.k.e x u h
  have nin : ∀ p ∈ L, p.1 ≠ a := fun p hp e => by
    have := (w.ow p hp).2.2.2.1
    rw [e, ha] at this
    cases this
  refine ⟨⟨w.st.bb, eB, fun x u n h => ?_, w.st.sep, fun x n => ?_, fun x n => ?_⟩, ⟨eB, F.fr H a o w.k.j nm, w.k.av⟩, fun p hp => ?_, ?_⟩
  · rw [upd_ne (ne_of_none h h0)]
    exact w.st.keep x u n h
  · rw [upd_ne (show x ≠ a from fun z => n (z ▸ h0))]
    exact w.st.live x n
  · exact (w.st.liv x n).upd fun z => n.ne (z ▸ h0)
  · rcases List.mem_cons.mp hp with rfl | hp
    · exact ⟨h0, nm, hb, upd_same, hn⟩
    · obtain ⟨g0, gm, gb, gh, gn⟩ := w.ow p hp
      exact ⟨g0, gm, gb, by rw [upd_ne (nin p hp)]; exact gh, gn⟩
  · refine List.nodup_cons.mpr ⟨fun hm => ?_, w.nd⟩
    obtain ⟨p, hp, e⟩ := List.mem_map.mp hm
    exact nin p hp e
/-- the first one is handed over to the data -/
theorem Ow.drop (w : Ow F B0 H0 B H ((a, o) :: L)) : Ow F B0 H0 (L2.upd B a o) H L ∧ Ex B (L2.upd B a o) := by
  obtain ⟨h0, nm, hb, hh, hn⟩ := w.ow (a, o) List.mem_cons_self
  have eH : Ex (L2.upd B a o) H := fun x u h => by
    by_cases e : x = a
    · subst e
      rw [upd_same] at h
      rw [← h]
      exact hh
    · rw [upd_ne e] at h
      exact w.k.e x u h
  refine ⟨⟨⟨w.st.bb.trans (Ex.new hb), eH, w.st.keep, fun x h n => ?_, w.st.live, w.st.liv⟩, ⟨eH, w.k.j, fun x m => ?_⟩, fun p hp => ?_, (List.nodup_cons.mp (show (a :: L.map (·.1)).Nodup from w.nd)).2⟩, Ex.new hb⟩
  · rw [upd_ne (show x ≠ a from fun z => n.ne (z ▸ h0))]
    exact w.st.sep x h n
  · rw [upd_ne (show x ≠ a from fun z => nm (z ▸ m))]
    exact w.k.av x m
  · obtain ⟨g0, gm, gb, gh, gn⟩ := w.ow p (List.mem_cons_of_mem _ hp)
    exact ⟨g0, gm, by rw [upd_ne (w.ne hp)]; exact gb, gh, gn⟩
theorem Ow.perm {L' : List (Addr × HO)} (w : Ow F B0 H0 B H L) (p : L'.Perm L) : Ow F B0 H0 B H L' := ⟨w.st, w.k, fun q hq => w.ow q (p.mem_iff.mp hq), (p.map _).nodup_iff.mpr w.nd⟩
theorem Ow.swap (w : Ow F B0 H0 B H ((a, o) :: (b, u) :: L)) : Ow F B0 H0 B H ((b, u) :: (a, o) :: L) := w.perm (.swap _ _ _)
/-- all of them as data, for a look -/
def shutL : Hp → List (Addr × HO) → Hp
  | B, [] => B
  | B, p :: L => shutL (L2.upd B p.1 p.2) L
theorem Ow.shut : ∀ {L : List (Addr × HO)} {B : Hp}, Ow F B0 H0 B H L → Ow F B0 H0 (shutL B L) H [] ∧ Ex B (shutL B L) ∧ ∀ p ∈ L, shutL B L p.1 = some p.2
  | [], B, w => ⟨w, Ex.refl B, fun p hp => (nomatch hp)⟩
  | (a, o) :: L, B, w => by
    obtain ⟨w1, e1⟩ := w.drop
    obtain ⟨w2, e2, g⟩ := w1.shut
    refine ⟨w2, e1.trans e2, fun p hp => ?_⟩
    rcases List.mem_cons.mp hp with rfl | hp
    · exact e2 _ _ upd_same
    · exact g p hp
theorem Ow.look (w : Ow F B0 H0 B H L) (s : Step F.M (shutL B L) H B5 H5) (k5 : Ok F B5 H5) : Ow F B0 H0 B H5 L := by
  have e5 : Ex B H5 := (w.shut.2.1.trans s.bb).trans s.bh
  exact ⟨w.st.trans ⟨Ex.refl B, e5, s.keep, fun _ h _ => h, s.live, s.liv⟩, ⟨e5, k5.j, w.k.av⟩, fun p hp => by
    obtain ⟨g0, gm, gb, gh, gn⟩ := w.ow p hp
    exact ⟨g0, gm, gb, s.keep _ _ gm gh, gn⟩, w.nd⟩
theorem Ow.here (w : Ow F B0 H0 B H ((a, o) :: L)) : H a = some o := (w.ow (a, o) List.mem_cons_self).2.2.2.1
end
section
variable {F : Fm} {K : PySem.W.Frag} {B0 H0 B H : Hp} {L : List (Addr × HO)} {na : Addr} {o : HO} {xs : List V} {m : Mp} {σ : L2.St} {te tl tv ty : TE} {t : TT} {tu tw tz : TS} {D : Ends} {i : Nat} {P : PV} {W : V → Prop} {b : Bool} {d : PyData} {n : Int} {k : List Int}
/-- statements that leave one's own alone -/
theorem wq_asg (w : Ow F B0 H0 B H L) (h : EV F te σ B P) (q : ∀ v B5 H5, Ow F B0 H0 B5 H5 L → Ex B B5 → P v B5 → tz D (σ.set i (some v)) H5) : tSeq (tAsg te (gName i)) tz D σ H := h B (Ex.refl B) H w.k _ fun v B5 H5 s5 k5 p => q v B5 H5 (w.pass s5 k5) s5.bb p
theorem ws_asg (w : Ow F B0 H0 B H L) (h : EV F te σ B P) (q : ∀ v B5 H5, Ow F B0 H0 B5 H5 L → Ex B B5 → P v B5 → D.nx (σ.set i (some v)) H5) : tAsg te (gName i) D σ H := h B (Ex.refl B) H w.k _ fun v B5 H5 s5 k5 p => q v B5 H5 (w.pass s5 k5) s5.bb p
theorem ws_if (w : Ow F B0 H0 B H L) (h : ETt F t σ B b) (h1 : b = true → ∀ B5 H5, Ow F B0 H0 B5 H5 L → Ex B B5 → tu D σ H5) (h2 : b = false → ∀ B5 H5, Ow F B0 H0 B5 H5 L → Ex B B5 → tw D σ H5) : tIfS t tu tw D σ H := h B (Ex.refl B) H w.k _ fun B5 H5 s5 k5 => by
  cases b with
  | true =>
    show tu D σ H5
    exact h1 rfl B5 H5 (w.pass s5 k5) s5.bb
  | false =>
    show tw D σ H5
    exact h2 rfl B5 H5 (w.pass s5 k5) s5.bb
theorem wq_when (w : Ow F B0 H0 B H L) (h : ETt F t σ B b) (h1 : b = true → ∀ B5 H5, Ow F B0 H0 B5 H5 L → Ex B B5 → tu { D with nx := tz D } σ H5) (h2 : b = false → ∀ B5 H5, Ow F B0 H0 B5 H5 L → Ex B B5 → tz D σ H5) : tSeq (tIfS t tu tNext) tz D σ H := ws_if (D := { D with nx := tz D }) w h h1 h2
theorem ws_ret (w : Ow F B0 H0 B H L) (h : EV F te σ B P) (q : ∀ v B5 H5, Ow F B0 H0 B5 H5 L → Ex B B5 → P v B5 → D.rt v H5) : tRet te D σ H := h B (Ex.refl B) H w.k _ fun v B5 H5 s5 k5 p => q v B5 H5 (w.pass s5 k5) s5.bb p
/-- statements that look at one's own; what comes of it needs no heap -/
theorem wl_if (w : Ow F B0 H0 B H L) (h : ETt F t σ (shutL B L) b) (h1 : b = true → ∀ H5, Ow F B0 H0 B H5 L → tu D σ H5) (h2 : b = false → ∀ H5, Ow F B0 H0 B H5 L → tw D σ H5) : tIfS t tu tw D σ H := h _ (Ex.refl _) H w.shut.1.k _ fun B5 H5 s5 k5 => by
  cases b with
  | true =>
    show tu D σ H5
    exact h1 rfl H5 (w.look s5 k5)
  | false =>
    show tw D σ H5
    exact h2 rfl H5 (w.look s5 k5)
theorem wl_when (w : Ow F B0 H0 B H L) (h : ETt F t σ (shutL B L) b) (h1 : b = true → ∀ H5, Ow F B0 H0 B H5 L → tu { D with nx := tz D } σ H5) (h2 : b = false → ∀ H5, Ow F B0 H0 B H5 L → tz D σ H5) : tSeq (tIfS t tu tNext) tz D σ H := wl_if (D := { D with nx := tz D }) w h h1 h2
theorem wl_asg (w : Ow F B0 H0 B H L) (h : EV F te σ (shutL B L) (fun v _ => W v)) (q : ∀ v H5, Ow F B0 H0 B H5 L → W v → tz D (σ.set i (some v)) H5) : tSeq (tAsg te (gName i)) tz D σ H := h _ (Ex.refl _) H w.shut.1.k _ fun v B5 H5 s5 k5 p => q v H5 (w.look s5 k5) p
/-- new ones -/
theorem wq_lst (w : Ow F B0 H0 B H L) (q : ∀ na, Ow F B0 H0 B (upd H na (.lst [])) ((na, .lst []) :: L) → tz D (σ.set i (some (.ref na))) (upd H na (.lst []))) : tSeq (tAsg (tLst tNil) (gName i)) tz D σ H :=
  ⟨Nat.zero_le _, fun na hna => q na (w.new hna trivial)⟩
theorem wq_dict (w : Ow F B0 H0 B H L) (q : ∀ na, Ow F B0 H0 B (upd H na (.dT (toK []))) ((na, .dT (toK [])) :: L) → tz D (σ.set i (some (.ref na))) (upd H na (.dT (toK [])))) : tSeq (tAsg tDNewT (gName i)) tz D σ H :=
  fun na hna => q na (w.new hna trivial)
/-- the first one changes -/
theorem ws_app (w : Ow F B0 H0 B H ((na, .lst xs) :: L)) (hi : σ[i]? = some (some (.ref na))) (h : ED F K te σ B d) (hl : xs.length < 16777216) (q : ∀ v B5 H5, Ow F B0 H0 B5 H5 ((na, .lst (xs ++ [v])) :: L) → Ex B B5 → Dd K B5 v d → D.nx σ H5) : tDrop (tBM K "list" rAppend (tVar i) (tCons te tNil)) D σ H :=
  ⟨.ref na, hi, .inl ⟨rfl, _, sq_of w.here⟩, h B (Ex.refl B) H w.k _ fun v B5 H5 s5 k5 p => ⟨na, xs, v, rfl, rfl, (w.pass s5 k5).here, by rw [sizeLine_eq]; exact hl, q v B5 _ ((w.pass s5 k5).set _ trivial) s5.bb p⟩⟩
theorem ws_put (w : Ow F B0 H0 B H ((na, .dT (toK m)) :: L)) (hi : σ[i]? = some (some (.ref na))) (hv : EV F tv σ B (fun v _ => v = .int n)) (hk : EV F ty σ B (KeyV k)) (nd : Nd m) (hl : m.length < 16777216) (q : ∀ B5 H5, Ow F B0 H0 B5 H5 ((na, .dT (toK (ptI m k n))) :: L) → Ex B B5 → D.nx σ H5) : sDPut (tVar i) ty tv D σ H :=
  hv B (Ex.refl B) H w.k _ fun v B1 H1 s1 j1 ev => ⟨.ref na, hi, hk B1 s1.bb H1 j1 _ fun u B2 H2 s2 j2 ⟨a, eu, g⟩ => by
    have w2 := (w.pass s1 j1).pass s2 j2
    subst ev eu
    refine ⟨na, upd H2 na (.dT (putK (toK m) (kI k) (.int n))), rfl, DPut.t w2.here (by rw [kV_kI]; exact j2.e _ _ g) ?_, ?_⟩
    · rw [sizeLine_eq]
      show (List.map _ m).length < _
      rw [List.length_map]
      exact hl
    · rw [put_toK nd]
      exact q B2 _ (w2.set _ trivial) (s1.bb.trans s2.bb)⟩
/-- the first one, a list, as data -/
theorem Ow.dropL {ds : List PyData} (w : Ow F B0 H0 B H ((na, .lst xs) :: L)) (h : DdAll K B xs ds) (hl : ds.length ≤ 16777216) : Ow F B0 H0 (upd B na (.lst xs)) H L ∧ Ex B (upd B na (.lst xs)) ∧ Dd K (upd B na (.lst xs)) (.ref na) (.list ds) :=
  ⟨w.drop.1, w.drop.2, .lst upd_same (by rw [h.len, sizeLine_eq]; exact hl) (h.up w.drop.2)⟩
theorem Ow.dropD (w : Ow F B0 H0 B H ((na, .dT (toK m)) :: L)) : Ow F B0 H0 (upd B na (.dT (toK m))) H L ∧ Ex B (upd B na (.dT (toK m))) ∧ DicV m (.ref na) (upd B na (.dT (toK m))) :=
  ⟨w.drop.1, w.drop.2, na, rfl, upd_same⟩
end
end Dx

/-! dicts from ints to ints; max and min of a list -/
namespace Dx
open PySem PySem.Spec PyProof.Rows L2 Evl
abbrev IMp := Int → Option Int
structure KD (m : IMp) (N : Nat) (kvs : List (Key × V)) : Prop where
  len : kvs.length ≤ N
  val : ∀ k : Int, valV kvs (.inl k) = (m k).map V.int
def iput (m : IMp) (k v : Int) : IMp := fun j => if j = k then some v else m j
theorem kd_nil : KD (fun _ => none) 0 [] := ⟨Nat.le_refl _, fun _ => rfl⟩
theorem putK_len {κ : Type} [DecidableEq κ] (kvs : List (κ × V)) (k : κ) (v : V) : (putK kvs k v).length ≤ kvs.length + 1 := by
  unfold putK
  split
  · rw [List.length_map]
    omega
  · rw [List.length_append]
    exact Nat.le_refl _
theorem KD.put {m : IMp} {N : Nat} {kvs : List (Key × V)} (h : KD m N kvs) (k v : Int) : KD (iput m k v) (N + 1) (putK kvs (.inl k) (.int v)) := ⟨Nat.le_trans (putK_len kvs _ _) (Nat.succ_le_succ h.len), fun j => by
  rw [valV_put, h.val]
  unfold iput
  by_cases e : j = k
  · rw [if_pos (by rw [e]), if_pos e]
    rfl
  · rw [if_neg (fun z => e (Sum.inl.inj z)), if_neg e]⟩
def DicI (m : IMp) : PV := fun v B => ∃ a kvs N, v = .ref a ∧ B a = some (.dK kvs) ∧ KD m N kvs
theorem upc_dicI {m : IMp} : Upc (DicI m) := fun _ _ _ e ⟨a, kvs, N, h, g, k⟩ => ⟨a, kvs, N, h, e _ _ g, k⟩
theorem igetD {H : Hp} {a : Addr} {m : IMp} {N : Nat} {kvs : List (Key × V)} {k : Int} (h : H a = some (.dK kvs)) (g : KD m N kvs) : DGet H a (.int k) ((m k).map V.int) := by
  rw [← g.val]
  exact DGet.k (k := .inl k) h
section
variable {F : Fm} {K : PySem.W.Frag} {σ : L2.St} {B B0 H0 H : Hp} {td ty tv te : TE} {m : IMp} {k d n : Int} {na : Addr} {kvs : List (Key × V)} {L : List (Addr × HO)} {D : Ends} {i : Nat} {tz : TS}
theorem ev_iin (hd : EV F td σ B (DicI m)) (hk : ED F K ty σ B (.int k)) : ED F K (tDIn ty td) σ B (.bool (m k).isSome) := fun B1 e1 H j Q q =>
  hk B1 e1 H j _ fun u B2 H2 s2 j2 g2 => hd B2 (e1.trans s2.bb) H2 j2 _ fun v B3 H3 s3 j3 ⟨a, kvs, N, ha, g3, h3⟩ => by
    obtain rfl := dd_int g2
    refine ⟨a, _, ha, igetD (j3.e _ _ g3) h3, ?_⟩
    rw [Option.isSome_map]
    exact q _ B3 H3 (s2.trans s3) j3 (.bl _)
theorem ev_inin (hd : EV F td σ B (DicI m)) (hk : ED F K ty σ B (.int k)) : ED F K (tDNotIn ty td) σ B (.bool (!(m k).isSome)) := fun B1 e1 H j Q q =>
  hk B1 e1 H j _ fun u B2 H2 s2 j2 g2 => hd B2 (e1.trans s2.bb) H2 j2 _ fun v B3 H3 s3 j3 ⟨a, kvs, N, ha, g3, h3⟩ => by
    obtain rfl := dd_int g2
    refine ⟨a, _, ha, igetD (j3.e _ _ g3) h3, ?_⟩
    rw [Option.isSome_map]
    exact q _ B3 H3 (s2.trans s3) j3 (.bl _)
theorem ev_iget (hd : EV F td σ B (DicI m)) (hk : ED F K ty σ B (.int k)) (hn : m k = some n) : ED F K (tDGet td ty) σ B (.int n) := fun B1 e1 H j Q q =>
  hd B1 e1 H j _ fun v B2 H2 s2 j2 ⟨a, kvs, N, ha, g, h⟩ => hk B2 (e1.trans s2.bb) H2 j2 _ fun u B3 H3 s3 j3 g3 => by
    obtain rfl := dd_int g3
    have hh := igetD (k := k) (j3.e _ _ (s3.bb _ _ g)) h
    rw [hn] at hh
    exact ⟨a, .int n, ha, hh, q _ B3 H3 (s2.trans s3) j3 (.int n)⟩
/-- the first of one's own as what stands just so -/
theorem Ow.mine {o : HO} (w : Ow Fm.pure B0 H0 B H [(na, o)]) (ho : nT o := by trivial) : Ok (Fm.mine na o ho) B H := ⟨w.k.e, w.here, fun a e => by
  rw [show a = na from e]
  exact (w.ow (na, o) List.mem_cons_self).2.2.1⟩
theorem Ow.unmine {o : HO} {ho : nT o} {B5 H5 : Hp} (w : Ow Fm.pure B0 H0 B H [(na, o)]) (s : Step (fun a => a = na) B H B5 H5) (k : Ok (Fm.mine na o ho) B5 H5) : Ow Fm.pure B0 H0 B5 H5 [(na, o)] := by
  obtain ⟨h0, nm, _, _, hn⟩ := w.ow (na, o) List.mem_cons_self
  refine ⟨step_mine h0 w.st s, Ok.any k.e, fun p hp => ?_, w.nd⟩
  obtain rfl := List.mem_singleton.mp hp
  exact ⟨h0, nm, k.av na rfl, k.j, hn⟩
/-- te evaluated while it stands so -/
theorem wm_asg {o : HO} {ho : nT o} {P : PV} {σ : L2.St} {te : TE} (w : Ow Fm.pure B0 H0 B H [(na, o)]) (h : EV (Fm.mine na o ho) te σ B P) (q : ∀ v B5 H5, Ow Fm.pure B0 H0 B5 H5 [(na, o)] → Ex B B5 → P v B5 → tz D (σ.set i (some v)) H5) : tSeq (tAsg te (gName i)) tz D σ H := h B (Ex.refl B) H (w.mine ho) _ fun v B5 H5 s5 k5 p => q v B5 H5 (w.unmine s5 k5) s5.bb p
theorem ev_minI {N : Nat} {ho : nT (.dK kvs)} (hi : σ[i]? = some (some (.ref na))) (hk : ED (Fm.mine na (.dK kvs) ho) K ty σ B (.int k)) (h : KD m N kvs) : ED (Fm.mine na (.dK kvs) ho) K (tDIn ty (tVar i)) σ B (.bool (m k).isSome) := fun B1 e1 H j Q q =>
  hk B1 e1 H j _ fun u B2 H2 s2 j2 g2 => ⟨.ref na, hi, by
    obtain rfl := dd_int g2
    refine ⟨na, _, rfl, igetD j2.j h, ?_⟩
    rw [Option.isSome_map]
    exact q _ B2 H2 s2 j2 (.bl _)⟩
theorem wq_dictK (w : Ow F B0 H0 B H L) (q : ∀ na, Ow F B0 H0 B (upd H na (.dK [])) ((na, .dK []) :: L) → tz D (σ.set i (some (.ref na))) (upd H na (.dK []))) : tSeq (tAsg tDNewK (gName i)) tz D σ H :=
  fun na hna => q na (w.new hna trivial)
/-- the dict, the first of one's own, as data for a look -/
theorem own_dicI {N : Nat} (w : Ow F B0 H0 B H ((na, .dK kvs) :: L)) (h : KD m N kvs) : DicI m (.ref na) (shutL B ((na, .dK kvs) :: L)) := ⟨na, kvs, N, rfl, w.shut.2.2 _ List.mem_cons_self, h⟩
/-- d[k] = n, where n may be found by a look at d -/
theorem ws_iput (w : Ow F B0 H0 B H ((na, .dK kvs) :: L)) (hi : σ[i]? = some (some (.ref na))) (hv : ED F K tv σ (shutL B ((na, .dK kvs) :: L)) (.int n)) (hk : ED F K ty σ (shutL B ((na, .dK kvs) :: L)) (.int k)) (hl : kvs.length < 16777216) (q : ∀ H5, Ow F B0 H0 B H5 ((na, .dK (putK kvs (.inl k) (.int n))) :: L) → D.nx σ H5) : sDPut (tVar i) ty tv D σ H :=
  hv _ (Ex.refl _) H w.shut.1.k _ fun v B1 H1 s1 j1 gv => by
    have w1 := w.look s1 j1
    obtain rfl := dd_int gv
    exact ⟨.ref na, hi, hk _ (Ex.refl _) H1 w1.shut.1.k _ fun u B2 H2 s2 j2 gu => by
      have w2 := w1.look s2 j2
      obtain rfl := dd_int gu
      exact ⟨na, _, rfl, DPut.k (k := .inl k) w2.here (by rw [sizeLine_eq]; exact hl), q _ (w2.set _ trivial)⟩⟩
end
/-! ### max, min -/
theorem bt_sum : bootBuiltins "sum" = some (.builtin "sum") := by decide +kernel
theorem bt_max : bootBuiltins "max" = some (.builtin "max") := by decide +kernel
theorem bt_min : bootBuiltins "min" = some (.builtin "min") := by decide +kernel
section
variable {F : Fm} {K : PySem.W.Frag} {B : Hp} {ns : List Int} {M : Int}
theorem cr_maxLK {X : Cx} (K : PySem.W.Frag) (hc : X.calm = true) (hK : X.K = K := by rfl) : CallR X (.builtin "max") (rMax K) := by subst hK; exact cr_max hc
theorem cr_minLK {X : Cx} (K : PySem.W.Frag) (hc : X.calm = true) (hK : X.K = K := by rfl) : CallR X (.builtin "min") (rMin K) := by subst hK; exact cr_min hc
theorem rc_max (h : M ∈ ns) (hm : ∀ a ∈ ns, a ≤ M) : RDc F K (rMax K) B [.list (ns.map .int)] (.int M) := rc_of fun H u hu => by
  obtain ⟨a, xs, rfl, h1, l1, g1⟩ := dd_lst hu
  refine ⟨.int M, fun _ => .int _, fun Q q => ⟨a, ns, rfl, by rw [← ddAll_ints g1]; exact sq_of h1, ?_, fun m h2 h3 => ?_⟩⟩
  · cases ns with
    | nil => cases h
    | cons a l => exact Nat.succ_pos _
  · rw [show m = M from Int.le_antisymm (hm m h2) (h3 M h)]
    exact q
theorem rc_min (h : M ∈ ns) (hm : ∀ a ∈ ns, M ≤ a) : RDc F K (rMin K) B [.list (ns.map .int)] (.int M) := rc_of fun H u hu => by
  obtain ⟨a, xs, rfl, h1, l1, g1⟩ := dd_lst hu
  refine ⟨.int M, fun _ => .int _, fun Q q => ⟨a, ns, rfl, by rw [← ddAll_ints g1]; exact sq_of h1, ?_, fun m h2 h3 => ?_⟩⟩
  · cases ns with
    | nil => cases h
    | cons a l => exact Nat.succ_pos _
  · rw [show m = M from Int.le_antisymm (h3 M h) (hm m h2)]
    exact q
end
end Dx

/-! enumerate of a tuple -/
namespace Dx
open PySem PySem.Spec PyProof.Rows L2 Evl
theorem en_new {x : Value} {ob : Obj} {Hc : Heap → Prop} (B : Begins x ob Hc) :
    Meets (Builtin.«enumerate.__new__» ⟨[.type "enumerate", x], []⟩) (fun _ R z => Hc z.heap ∧ R (.ok (.ret (.ref (z.heap.push ob).objs.size)))
      { z with heap := (z.heap.push ob).push { cls := .type "enumerate", data := .fields #[.none, .bool false, .ref z.heap.objs.size, rawInt 0, .none, .none] } }) :=
  .of_wp fun pr wo A R z hz => by
    rcases z with ⟨hp, gs, dd, tt, oo⟩
    rcases hz with ⟨hc, hr⟩
    have sub0 := sub_enumerate
    have it0 : ∀ {A1 : Around} {E1 Q1 : Value → Shared → Prop}, Q1 (.ref hp.objs.size) ⟨hp.push ob, gs, dd, tt, oo⟩ → wpAny (model pr wo) A1 (pyIter x) Q1 E1 ⟨hp, gs, dd, tt, oo⟩ := fun k => B.iter pr wo _ _ _ _ hc k
    wp_walk using it0
    refine wpAny_stack_any fun _ => wpAny_pure ?_
    split
    · rename_i c _ _ _ _ _
      cases (c == Value.type "enumerate") <;> (wp_walk using it0; exact ⟨_, rfl, hr⟩)
    · wp_walk using it0
      exact ⟨_, rfl, hr⟩
section
variable {pr : Program} {wo : World} {A : Around} {E : Value → Shared → Prop} {z : Shared}
theorem en_call {x : Value} {ob : Obj} {Hc : Heap → Prop} {Q : Value → Shared → Prop} (B : Begins x ob Hc) (hc : Hc z.heap)
    (k : ∀ h2, IsEnum h2 (z.heap.objs.size + 1) z.heap.objs.size 0 .none → h2.get? z.heap.objs.size = some ob → (∀ b o, z.heap.get? b = some o → h2.get? b = some o) → Q (.ref (z.heap.objs.size + 1)) { z with heap := h2 }) :
    wpAny (model pr wo) A (call (.type "enumerate") [x]) Q E z := by
  refine callType_new F.called_enumerate (by decide) (F.typeCall_enumerate_1 _) (F.newCall_enumerate_1 _) (fun q => F.args_object_init_2 q _) F.entry_enumerate_new (en_new B) ⟨hc, ?_⟩
  have sz : (z.heap.push ob).objs.size = z.heap.objs.size + 1 := Heap.size_push ..
  have en : IsEnum ((z.heap.push ob).push { cls := .type "enumerate", data := .fields #[.none, .bool false, .ref z.heap.objs.size, rawInt 0, .none, .none] }) (z.heap.objs.size + 1) z.heap.objs.size 0 .none := sz ▸ Heap.get?_push_size (z.heap.push ob) rfl
  show _ ∧ _
  rw [sz]
  exact ⟨⟨_, en, rfl⟩, k _ en (Heap.get?_push_of_some _ (Heap.get?_push_size _ B.free)) fun b o q => Heap.get?_push_of_some _ (Heap.get?_push_of_some _ q)⟩
end
/-- the tuple at a as it stands at each turn, the items in new pairs with their places -/
def IteT (K : PySem.W.Frag) (a : Addr) : It where
  go i H := ∃ (xs : List V) (x : V), SqT K H a xs ∧ xs[i]? = some x
  yld i H v H' := ∃ t x, v = .ref t ∧ H t = none ∧ H' = upd H t (.tup [.int (i : Nat), x]) ∧ ∀ xs, SqT K H a xs → xs[i]? = some x
  stop i H := ∃ xs : List V, SqT K H a xs ∧ xs.length = i
structure EnSt (a e it : Addr) (i : Nat) (h : Heap) : Prop where
  en : ∃ old, IsEnum h e it ((i : Nat) : Int) old
  ti : h.IsTupleIter it a i
  n1 : e ≠ it
  n2 : e ≠ a
  n3 : a ≠ it
theorem en_turn {pr : Program} {wo : World} {K : PySem.W.Frag} {ts : List Expr} {kk : Nat} {ps : Pos} (a e it : Addr) : Turn pr wo K (.Tuple ts kk ps) (IteT K a) [e, it] e (EnSt a e it) where
  mem := List.mem_cons_self
  obj := fun i h st b hb => by
    obtain ⟨old, he⟩ := st.en
    obtain ⟨ob, hob, _, hdt⟩ := st.ti
    rcases List.mem_cons.mp hb with rfl | hb
    · exact ⟨_, he, fun v z => nomatch z⟩
    · rw [List.mem_singleton.mp hb]
      exact ⟨ob, hob, fun v z => by
        rw [hdt] at z
        cases z⟩
  keep := fun i h h' st k => ⟨let ⟨old, he⟩ := st.en; ⟨old, k e List.mem_cons_self _ he⟩, st.ti.at fun o z => k it (List.mem_cons_of_mem _ List.mem_cons_self) o z, st.n1, st.n2, st.n3⟩
  item := by
    rintro X rfl rfl rfl hc i pins s σ H E I hf st ⟨xs, x, hsq, hx⟩
    obtain ⟨old, he⟩ := st.en
    obtain ⟨vs, rv, pt, _⟩ := I.tuple hsq
    obtain ⟨u, hu, ru⟩ := rv.get hx
    have le : e < s.heap.objs.size := Heap.lt_size he
    have li : it < s.heap.objs.size := by
      obtain ⟨_, z, _⟩ := st.ti
      exact Heap.lt_size z
    have D := Draws.tuple (prog := X.prog) (w := X.w) (A := X.A.in1) (I.ok.hd hc) it a st.n3 vs.toArray
    have hi : i < vs.toArray.size := by
      have := (List.getElem?_eq_some_iff.mp hu).1
      simpa using this
    refine wpAny_pyNext_enum_itemD D he ⟨st.ti, (show s.heap.IsTuple a vs.toArray from pt)⟩ hi st.n1 (by simp [st.n1, st.n2]) fun y h1 tk hy ho hst hT _ hk => ⟨_, rfl, ?_⟩
    have ey : y = u := by
      have hy' : vs[i]? = some y := by simpa using hy
      exact Option.some.inj (hy'.symm.trans hu)
    subst ey
    refine wpAny_letOwnedTupleGo_enum (s := { s with heap := h1, toks := tk + 1 }) ho fun h2 he2 sb => ?_
    have at2 : h2.get? s.heap.objs.size = some { cls := .type "tuple", data := .seq #[.int i tk, y] } := (sb.2 _ (Nat.ne_of_gt le)).trans hT
    have ok2 : ObjOk X.prog X.w (upd H s.heap.objs.size (.tup [.int (i : Nat), x])) h2 s.heap.objs.size (.tup [.int (i : Nat), x]) := ⟨by show 2 ≤ sizeLine; decide, [.int i tk, y], .cons ⟨_, rfl⟩ (.cons ru .nil), ⟨_, at2, rfl, _, rfl⟩⟩
    have I2 : Inv X pins σ (upd H s.heap.objs.size (.tup [.int (i : Nat), x])) { s with heap := h2, toks := tk + 1 } := I.turnedNew (ch := [e, it]) (fun b ob nb z => (sb.2 b fun w => nb (w ▸ List.mem_cons_self)).trans (hk b ob (fun w => nb (w ▸ List.mem_cons_self)) (fun w => nb (w ▸ List.mem_cons_of_mem _ List.mem_cons_self)) z)) hf (Nat.le_refl _) ok2
    refine ⟨.ref s.heap.objs.size, _, I2, rfl, ⟨_, x, rfl, I.hok.fresh (Nat.le_refl _), rfl, fun ys hy2 => by
      rw [I.tuple_inj hy2 hsq]
      exact hx⟩, ⟨⟨y, by rw [show ((i + 1 : Nat) : Int) = (i : Int) + 1 by omega]; exact he2⟩, hst.1.at fun o z => (sb.2 it st.n1.symm).trans z, st.n1, st.n2, st.n3⟩, fun b hb => ?_⟩
    have lb : b < s.heap.objs.size := by
      rcases List.mem_cons.mp hb with rfl | hb
      · exact le
      · rw [List.mem_singleton.mp hb]
        exact li
    rw [upd_ne (Nat.ne_of_lt lb)]
    exact (hf b hb).1
  done := by
    rintro X rfl rfl rfl hc i pins s σ H E I hf st ⟨xs, hsq, hx⟩
    obtain ⟨old, he⟩ := st.en
    obtain ⟨vs, rv, pt, _⟩ := I.tuple hsq
    obtain ⟨f0, f1, f2, f3, f4, f5⟩ := hf it (List.mem_cons_of_mem _ List.mem_cons_self)
    have D := Draws.tuple (prog := X.prog) (w := X.w) (A := X.A.in1) (I.ok.hd hc) it a st.n3 vs.toArray
    have en : vs.toArray.size = i := by
      have := rv.length
      simp
      omega
    refine wpAny_pyNext_enum_endD D he ⟨by rw [en]; exact st.ti, (show s.heap.IsTuple a vs.toArray from pt)⟩ fun h2 more => ⟨rfl, ?_⟩
    exact I.turned (fun b ob nb z => more b ob nb z) f0 f1 f3 f4 f5
  self := fun A i s Q E st h => by
    obtain ⟨_, he⟩ := st.en
    exact wpAny_pyIter_enum he h
def iEnumT (K : PySem.W.Frag) (ta : TA) : TI := fun σ H R => ta σ H fun vs H1 => ∃ a xs, vs = [.ref a] ∧ SqT K H1 a xs ∧ R (IteT K a) H1
theorem pi_enumTK {X : Cx} (K : PySem.W.Frag) {ex : Expr} {ta : TA} {p1 p2 p3 : Pos} {ts : List Expr} {kk : Nat} (hg : Gl X "enumerate") (hm : X.mg "enumerate" = none) (ha : PA X [ex] ta) (hs : starEach [ex] X.env = [(false, eval ex X.env)] := by rfl) (hK : X.K = K := by rfl) : PI X (.Tuple ts kk p3) (.Call (.Name "enumerate" p1) [ex] [] p2) (iEnumT K ta) := by
  subst hK
  refine ⟨fun pins s σ H R I h => Call_ (ld_blt I hg hm boot_enumerate (PyProof.Rows.callWith_type1 (thn (ha.run p2 pins s σ H _ I h) fun us s1 ⟨vs, H1, I1, r1, q1⟩ => ?_) hs rfl))⟩
  obtain ⟨a, xs, rfl, hsq, q2⟩ := q1
  cases r1 with
  | cons r rr =>
    cases rr
    cases r
    obtain ⟨us, rv, pt, _⟩ := I1.tuple hsq
    have la : a < s1.heap.objs.size := by
      obtain ⟨o, z, _⟩ := (show s1.heap.IsTuple a us.toArray from pt)
      exact Heap.lt_size z
    refine en_call (begins_tuple a us.toArray) (show s1.heap.IsTuple a us.toArray from pt) fun h2 he hit hk => wpAny_pyIter_enum he ?_
    refine ⟨s1.heap.objs.size + 1, [s1.heap.objs.size + 1, s1.heap.objs.size], _, IteT X.K a, H1, rfl, I1.kept (t' := s1.toks) hk, en_turn a _ s1.heap.objs.size, ⟨⟨_, he⟩, ⟨_, hit, rfl, rfl⟩, Nat.succ_ne_self _, Nat.ne_of_gt (Nat.lt_succ_of_lt la), Nat.ne_of_lt la⟩, fun b hb => ?_, q2⟩
    have lb : s1.heap.objs.size ≤ b := by
      rcases List.mem_cons.mp hb with rfl | hb
      · omega
      · rw [List.mem_singleton.mp hb]
        exact Nat.le_refl _
    have nb := I1.hok.fresh lb
    exact I1.fpOk lb nb
section
variable {F : Fm} {K : PySem.W.Frag} {σ : L2.St} {B H : Hp} {D : Ends} {tb tz : TS} {te : TE} {ds : List PyData} {i0 j0 : Nat}
/-- for number, one in enumerate(a tuple of data) -/
theorem os_forE (ok : Ok F B H) (h : ED F K te σ B (.tuple ds)) (J : Nat → L2.St → Hp → Hp → Prop) (hj : ∀ i σ B H, J i σ B H → Ok F B H) (hup : ∀ i σ B H B5 H5, J i σ B H → Step F.M B H B5 H5 → Ok F B5 H5 → J i σ B5 H5) (h0 : ∀ B1 H1, Step F.M B H B1 H1 → Ok F B1 H1 → J 0 σ B1 H1)
    (hs : ∀ Bb (i : Nat) d v σ' B1 H1, ds[i]? = some d → Ex B Bb → Ex Bb B1 → Dd K B1 v d → J i σ' B1 H1 → tb { D with nx := Nx Bb (J (i + 1)), ct := Nx Bb (J (i + 1)), bk := D.nx } ((σ'.set i0 (some (.int (i : Int)))).set j0 (some v)) H1)
    (hd : ∀ σ' B1 H1, Ex B B1 → J ds.length σ' B1 H1 → D.nx σ' H1) : tFor (iEnumT K (tCons te tNil)) (gTup K 2 (gCons (gName i0) (gCons (gName j0) gNil))) tb D σ H := by
  refine h B (Ex.refl B) H ok _ fun v B1 H1 s1 k1 pv => ?_
  obtain ⟨a, us, rfl, ta, _, g⟩ := dd_tup pv
  have gl := g.len
  refine ⟨a, us, rfl, ex_t k1.e ta, fun i m σ' H' => m = us.length - i ∧ i ≤ us.length ∧ ∃ B2, Ex B1 B2 ∧ J i σ' B2 H', ⟨us.length, rfl, Nat.zero_le _, B1, Ex.refl B1, h0 B1 H1 s1 k1⟩, ?_⟩
  rintro i m σ' H' ⟨rfl, hi, B2, e2, q⟩
  have kq := hj _ _ _ _ q
  have sq : SqT K H' a us := ex_t kq.e (ex_t e2 ta)
  by_cases e : i = us.length
  · exact .inl ⟨⟨us, sq, e.symm⟩, hd σ' B2 H' (s1.bb.trans e2) (by rw [← gl, ← e]; exact q)⟩
  · have hlt : i < us.length := by omega
    have hx : us[i]? = some us[i] := List.getElem?_eq_getElem hlt
    refine .inr ⟨⟨us, us[i], sq, hx⟩, Nx B1 (J (i + 1)), fun σ2 H2 ⟨B3, e3, q3⟩ => ⟨us.length - (i + 1), by omega, rfl, by omega, B3, e3, q3⟩, fun y H2 ⟨T, x, ey, hT, eH, hx2⟩ => ?_⟩
    subst ey eH
    obtain rfl : x = us[i] := Option.some.inj ((hx2 us sq).symm.trans hx)
    obtain ⟨d, hdd, hdv⟩ := g.getv hx
    have eN : Ex B2 (upd B2 T (.tup [.int (i : Nat), us[i]])) := Ex.new (fresh_back kq.e hT)
    refine ⟨T, [.int (i : Nat), us[i]], rfl, .inl (.inl upd_same), rfl, ?_⟩
    exact ⟨_, _, rfl, _, _, rfl, rfl, hs B1 i d us[i] σ' _ _ hdd s1.bb (e2.trans eN) (hdv.up (e2.trans eN)) (hup _ _ _ _ _ _ q (Step.alloc kq.e hT) (kq.alloc hT))⟩
end
end Dx

/-! own methods that may raise; x != y by an own __eq__; x == y of instances without one -/
namespace Mt
open PySem PySem.Spec PyProof.Rows L2 PySem.SeqAt
/-! ### methods -/
def tMethS (C : Addr) (m : Str) (sp : Sp) (E : L2.St → XK) (ta : TE) (t : TA) : TE := fun σ H Q => ta σ H fun x H1 => ∃ a dx fs, x = .ref a ∧ H1 a = some (.ins C dx fs) ∧ fs.lookup m = none ∧ t σ H1 fun vs H2 => sp (x :: vs) H2 Q (E σ)
structure MethX (P : Program) (w : World) (K : PySem.W.Frag) (mg : Str → Option Value) (base : Heap) (CX : CXT) (C : Addr) (m : Str) (k : Nat) (ps : List Str) (sp : Sp) : Prop where
  ex : ∃ f fd, FnOk P w K mg base CX k f fd ps sp ∧ Meth K C m f ∧ L2.Binds K fd ps []
section
variable {X : Cx} {CX : CXT} {C : Addr} {m : Str} {k : Nat} {ps : List Str} {sp : Sp} {E : L2.St → XK} {o e : Expr} {es : List Expr} {ta : TE} {t : TA} {apos pos : Pos} {pl : Sem Bool}
theorem pe_methX (M : MethX X.prog X.w X.K X.mg X.base CX C m k ps sp) (c : Cls X.K C) (hr : Room k X.A) (hx : ∀ σ, PassesAt CX X σ (E σ)) (he : PE X o ta) (ha : PA X (e :: es) t)
    (hst : starEach (e :: es) X.env = (false, eval e X.env) :: starEach es X.env := by rfl) (hpl : (backTo pos (starEach es X.env)).any (·.1) = false := by rfl)
    (ht : eval (.Call (.Attribute o m apos) (e :: es) [] pos) X.env = (do
      let ov ← eval o X.env
      standAt apos.atName
      let (f, first) ← holding [ov] (getMethod ov m pl)
      callWith pos f first (backTo pos (starEach (e :: es) X.env)) (backToKw pos (keywordEach [] X.env))) := by rfl) :
    PE X (.Call (.Attribute o m apos) (e :: es) [] pos) (tMethS C m sp E ta t) := by
  obtain ⟨f, fd, F, hm, hb⟩ := M.ex
  refine ⟨fun pins s σ H Q I h => ?_⟩
  refine PySem.W.methodCall_KW (pl := pl) (thn (he.run pins s σ H _ I h) fun u s1 ⟨x, H1, I1, rx, a, dx, fs, ex, ea, l, q⟩ => ?_) ht
  subst ex
  obtain rfl : u = Value.ref a := rx
  refine getmeth_ok I1 ea c hm l ?_
  refine PySem.W.callWith_K (first := [.ref a]) (h₀ := X.base) I1.ok.mod.kin hm.kp (thn (ha.run pos pins s1 σ H1 _ I1 q) fun us s2 ⟨vs, H2, I2, r, q2⟩ => ⟨I2.kIn, ?_⟩) hst hpl
  exact run_fnS (us := .ref a :: us) (vs := .ref a :: vs) F hr hb (hx σ) I2 (.cons rfl r) q2
theorem pe_methX0 (M : MethX X.prog X.w X.K X.mg X.base CX C m k ps sp) (c : Cls X.K C) (hr : Room k X.A) (hx : ∀ σ, PassesAt CX X σ (E σ)) (he : PE X o ta)
    (ht : eval (.Call (.Attribute o m apos) [] [] pos) X.env = (do
      let ov ← eval o X.env
      standAt apos.atName
      let (f, first) ← holding [ov] (getMethod ov m pl)
      callWith pos f first (backTo pos (starEach [] X.env)) (backToKw pos (keywordEach [] X.env))) := by rfl) :
    PE X (.Call (.Attribute o m apos) [] [] pos) (tMethS C m sp E ta tNil) := by
  obtain ⟨f, fd, F, hm, hb⟩ := M.ex
  refine ⟨fun pins s σ H Q I h => ?_⟩
  refine PySem.W.methodCall_KW (pl := pl) (thn (he.run pins s σ H _ I h) fun u s1 ⟨x, H1, I1, rx, a, dx, fs, ex, ea, l, q⟩ => ?_) ht
  subst ex
  obtain rfl : u = Value.ref a := rx
  refine getmeth_ok I1 ea c hm l ?_
  exact PySem.W.callWith_K0 (first := [.ref a]) I1.kIn hm.kp (run_fnS (us := [.ref a]) (vs := [.ref a]) F hr hb (hx σ) I1 (.cons rfl .nil) q)
end
/-! ### x != y, x and y instances of a class with an own __eq__ -/
section
variable {M : Model} {prog : Program} {w : World} {A : Around} {E : Value → Shared → Prop} {s : Shared} {K : PySem.W.Frag} {x C : Addr} {ox : Obj} {od : Option Obj} {b : Value}
theorem ifBound_ne {args : List Value} {Q : Option Value → Shared → Prop} (X : K.In s.heap) (I : PySem.W.InstAt s.heap x ox C od) (hs : PySem.W.findIn K (.ref C) "__ne__" = some (some (.builtin "object.__ne__")))
    (h : wpAny M A (call (.builtin "object.__ne__") (.ref x :: args)) (fun v => Q (some v)) E s) : wpAny M A (callSpecialIfBound? (.ref x) "__ne__" args) Q E s := by
  simp only [callSpecialIfBound?, bindSpecialIfBound?]
  refine wpAny_holding (wpAny_bind (wpAny_bind (wpAny_bind (I.type.here ((PySem.W.looks_findIn X hs).here ?_)))))
  refine wpAny_bind (wpAny_askSetting (wpAny_ite ?_))
  have fin : wpAny M A (call (.builtin "object.__ne__") ([.ref x] ++ args) >>= fun v => pure (some v)) Q E s := wpAny_bind (wpAny_mono h (fun v s' h' => wpAny_pure h') fun _ _ h' => h')
  split
  · exact wpAny_bind (wpAny_of_eq (F.cmp_object.ne.bind _) (wpAny_pure (by exact fin)))
  · exact wpAny_tryCatch (wpAny_bind (wpAny_of_eq (F.cmp_object.ne.bind _) (wpAny_pure (by exact fin))))
theorem entry_ne {Q : Fin → Shared → Prop} (hu : A.units < cLine) (h : wpAny M A (callSpecialIfBound? (.ref x) "__eq__" [b]) (fun r s' => ∃ k, r = some (.bool k) ∧ Q (.done (.ret (.bool (!k)))) s') E s) :
    wpAny M A (Builtin.«object.__ne__» ⟨[.ref x, b], []⟩) Q E s := by
  unfold Builtin.«object.__ne__»
  refine wpAny_bind (wpAny_mono (Q := fun r s' => r = (Value.ref x, [b]) ∧ s' = s) ?_ (fun r s1 z => ?_) fun _ _ e => e)
  · repeat (first | wp_step)
    exact ⟨rfl, rfl⟩
  obtain ⟨z1, z2⟩ := z
  subst z1
  subst z2
  dsimp only
  refine wpAny_bind (wpAny_cRoomFor hu ?_)
  refine wpAny_bind (wpAny_mono h (fun r s2 z => ?_) fun _ _ e => e)
  obtain ⟨k, rfl, hq⟩ := z
  dsimp only
  refine wpAny_bind (wpAny_truthy_bool ?_)
  exact wpAny_pure hq
end

section
variable {X : Cx} {CX : CXT} {C f : Addr} {fd : FuncData} {ps : List Str} {sp : Sp} {E : XK} {k : Nat}
def rOwnNe (C : Addr) (sp : Sp) (E : XK) : R2 := fun x y H Q => ∃ a dx fs b dy gs, x = .ref a ∧ y = .ref b ∧ H a = some (.ins C dx fs) ∧ H b = some (.ins C dy gs) ∧ sp [x, y] H (fun v H' => ∃ r, v = .bl r ∧ Q (.bl (!r)) H') E
theorem op_ownNe (G : FnOk X.prog X.w X.K X.mg X.base CX k f fd ps sp) (hr : Room (k + 1) X.A) (hs : PySem.W.findIn X.K (.ref C) "__eq__" = some (some (.ref f))) (hf : PySem.W.isFn X.K (.ref f) = true) (hb : L2.Binds X.K fd ps []) (hn : PySem.W.findIn X.K (.ref C) "__ne__" = some (some (.builtin "object.__ne__"))) (hm : PySem.W.mroIn X.K C (.type "object") = some true) (hx : Passes CX X E) :
    OpR X (compareOp .NotEq) (rOwnNe C sp E) := by
  intro pins s σ H x y v u Q I rx ry hq
  obtain ⟨a, dx, fs, b, dy, gs, rfl, rfl, ha, hb', hsp⟩ := hq
  cases rx
  cases ry
  show wpAny (model X.prog X.w) X.A (richCompare .NotEq (.ref a) (.ref b)) (EP X pins σ Q) X.xe s
  obtain ⟨mA, J, _⟩ := ins_get I.hok ha
  obtain ⟨mB, J', _⟩ := ins_get I.hok hb'
  obtain ⟨od, J, _⟩ := J.look
  obtain ⟨od', J', _⟩ := J'.look
  have hu := hr.units0
  have hr1 : Room k X.A.in1 := hr.in1
  have run : wpAny (model X.prog X.w) X.A.in1 (call (.ref f) [.ref a, .ref b]) (fun v s' => ∃ r, some v = some (.bool r) ∧ EP X pins σ Q (.bool (!r)) s') X.xe s := by
    have e0 : Env0 X.prog X.w X.K X.mg X.base X.A.in1 X.stack s H := I.env0.in1
    have hl := G.len _ _ _ _ hsp
    have r2 : Vals [V.ref a, V.ref b] [Value.ref a, Value.ref b] := .cons rfl (.cons rfl .nil)
    refine wpAny_call (codeAny_mono (G.run X.A.in1 X.stack s H ⟨[.ref a, .ref b], []⟩ [.ref a, .ref b] [.ref a, .ref b] _ E hr1 e0 (by
      have := hb s [.ref a, .ref b] I.kIn (by simpa using hl)
      simpa using this) r2 hsp) fun r s' hq => ?_)
    cases r with
    | error e => exact hx pins σ H s e s' I hq
    | ok fl =>
      cases fl with
      | ret w =>
        obtain ⟨z, H', I', rz, r, ez, q⟩ := I.after hq
        subst ez
        cases rz
        exact ⟨r, rfl, .bl (!r), H', I', rfl, q⟩
      | next => exact False.elim hq
      | brk => exact False.elim hq
      | cont => exact False.elim hq
  have one : wpAny (model X.prog X.w) X.A (tryCompare (.ref a) "__ne__" (.ref b)) (fun r s' => ∃ v, r = some v ∧ EP X pins σ Q v s') X.xe s := by
    unfold tryCompare
    refine wpAny_bind (ifBound_ne I.kIn J hn (wpAny_call (codeAny_call_builtin F.cmp_object.ne.plain F.cmpEntry_ne (PySem.W.check_slot F.cmpKind_ne F.cmpSplit_ne (J.type.andThen (PySem.W.looks_mroIn I.kIn hm)) (F.cmpArgs_ne _ _) (entry_ne (A := X.A.in1) hr1.units0 ?_)))))
    refine PySem.W.ifBound_K I.kIn J hs hf (wpAny_mono run (fun v s' z => ?_) fun _ _ e => e)
    obtain ⟨r, e, q⟩ := z
    cases e
    exact ⟨r, rfl, wpAny_pure ⟨_, rfl, q⟩⟩
  unfold richCompare
  simp only [oneThing_ref]
  refine wpAny_holding (wpAny_bind (wpAny_cRoomFor hu ?_))
  refine wpAny_bind (J.type.here (wpAny_bind (J'.type.here ?_)))
  split
  · rename_i q
    exact absurd q (by simp)
  · refine wpAny_bind (wpAny_pure ?_)
    simp only [Bool.false_eq_true, if_false]
    refine wpAny_bind (wpAny_mono one (fun r s' z => ?_) fun _ _ e => e)
    obtain ⟨v, rfl, hq⟩ := z
    exact wpAny_pure hq
/-- x == y of instances without an own __eq__ -/
def rIdEq (C : Addr) : R2 := fun x y H Q => ∃ a dx fs b dy gs, x = .ref a ∧ y = .ref b ∧ H a = some (.ins C dx fs) ∧ H b = some (.ins C dy gs) ∧ Q (.bl (decide (a = b))) H
theorem op_idEq (hu : X.A.units + 1 < cLine) (he : PySem.W.findIn X.K (.ref C) "__eq__" = some (some (.builtin "object.__eq__"))) (hm : PySem.W.mroIn X.K C (.type "object") = some true) : OpR X (compareOp .Eq) (rIdEq C) := by
  intro pins s σ H x y v u Q I rx ry hq
  obtain ⟨a, dx, fs, b, dy, gs, rfl, rfl, ha, hb', hq⟩ := hq
  cases rx
  cases ry
  show wpAny (model X.prog X.w) X.A (richCompare .Eq (.ref a) (.ref b)) (EP X pins σ Q) X.xe s
  obtain ⟨mA, J, _⟩ := ins_get I.hok ha
  obtain ⟨mB, J', _⟩ := ins_get I.hok hb'
  obtain ⟨od, J, _⟩ := J.look
  obtain ⟨od', J', _⟩ := J'.look
  have fin : EP X pins σ Q (.bool (decide (a = b))) s := ⟨.bl (decide (a = b)), H, I, rfl, hq⟩
  have callEq : ∀ {x y : Addr} {ox : Obj} {od : Option Obj} {R : Value → Shared → Prop}, PySem.W.InstAt s.heap x ox C od → (∀ {Q2 : Fin → Shared → Prop}, (∀ r, R r s → Q2 (.done (.ret r)) s) → wpAny (model X.prog X.w) X.A.in1 (Builtin.«object.__eq__» ⟨[.ref x, .ref y], []⟩) Q2 X.xe s) → wpAny (model X.prog X.w) X.A (call (.builtin "object.__eq__") [.ref x, .ref y]) R X.xe s := fun J h =>
    wpAny_call (codeAny_call_builtin F.cmp_object.eq.plain F.cmpEntry_eq (PySem.W.check_slot F.cmpKind_eq F.cmpSplit_eq (J.type.andThen (PySem.W.looks_mroIn I.kIn hm)) (F.cmpArgs_eq _ _) (h fun r hr => hr)))
  unfold richCompare
  simp only [oneThing_ref]
  refine wpAny_holding (wpAny_bind (wpAny_cRoomFor (by omega) ?_))
  refine wpAny_bind (J.type.here (wpAny_bind (J'.type.here ?_)))
  split
  · rename_i q
    exact absurd q (by simp)
  · refine wpAny_bind (wpAny_pure ?_)
    simp only [Bool.false_eq_true, if_false]
    by_cases hab : a = b
    · subst hab
      have one : wpAny (model X.prog X.w) X.A (tryCompare (.ref a) "__eq__" (.ref a)) (fun r s' => r = some (.bool true) ∧ s' = s) X.xe s := by
        unfold tryCompare
        refine wpAny_bind (HN.ifBound_objEq I.kIn J he (callEq J fun h => objEq_entry_same (h _ (wpAny_pure ⟨rfl, rfl⟩))))
      refine wpAny_bind (wpAny_mono one (fun r s' z => ?_) fun _ _ e => e)
      obtain ⟨z1, z2⟩ := z
      subst z1
      subst z2
      rw [decide_eq_true rfl] at fin
      exact wpAny_pure fin
    · have ne1 : ∀ {x y : Addr} {ox oy : Obj} {od od' : Option Obj}, x ≠ y → PySem.W.InstAt s.heap x ox C od → PySem.W.InstAt s.heap y oy C od' → wpAny (model X.prog X.w) X.A (tryCompare (.ref x) "__eq__" (.ref y)) (fun r s' => r = none ∧ s' = s) X.xe s := fun hxy J J' => by
        unfold tryCompare
        exact wpAny_bind (HN.ifBound_objEq I.kIn J he (callEq J fun h => objEq_entry_other hxy J.at_ J'.at_ (by rw [J.cls]; exact fun e => nomatch e) (h _ (wpAny_pure ⟨rfl, rfl⟩))))
      refine wpAny_bind (wpAny_mono (ne1 hab J J') (fun r s' z => ?_) fun _ _ e => e)
      obtain ⟨z1, z2⟩ := z
      subst z1
      subst z2
      simp only [Bool.not_false, if_true]
      refine wpAny_bind (wpAny_mono (ne1 (Ne.symm hab) J' J) (fun r s' z => ?_) fun _ _ e => e)
      obtain ⟨z1, z2⟩ := z
      subst z1
      subst z2
      rw [decide_eq_false hab] at fin
      exact wpAny_bind (wpAny_rule (wpAny_bind (wpAny_isSame_ref_other hab J.at_ J'.at_ (by rw [J.cls]; exact fun e => nomatch e) (wpAny_pure fin))))
end
end Mt

/-! expressions evaluated while objects of one's own stand just so -/
namespace Dx
open PySem PySem.Spec PyProof.Rows L2 Evl
def Fm.wL (F : Fm) (L : List (Addr × HO)) (hn : ∀ p ∈ L, nT p.2) : Fm := ⟨fun a => F.M a ∨ ∃ p ∈ L, p.1 = a, fun H => F.J H ∧ ∀ p ∈ L, H p.1 = some p.2, fun H H' e h => ⟨F.up H H' e h.1, fun p hp => e _ _ (h.2 p hp)⟩, fun H a h m => by
  rcases m with m | ⟨p, hp, rfl⟩
  · exact F.lv H a h.1 m
  · exact ⟨_, h.2 p hp, hn p hp⟩, fun H a o h nm => ⟨F.fr H a o h.1 fun z => nm (.inl z), fun p hp => by
  rw [upd_ne fun z : p.1 = a => nm (.inr ⟨p, hp, z⟩)]
  exact h.2 p hp⟩⟩
section
variable {F : Fm} {K : PySem.W.Frag} {B0 H0 B H B5 H5 : Hp} {L L' : List (Addr × HO)} {a : Addr} {o : HO}
theorem Ow.nt (w : Ow F B0 H0 B H L) : ∀ p ∈ L, nT p.2 := fun p hp => (w.ow p hp).2.2.2.2
theorem Ow.ok (w : Ow F B0 H0 B H L) : Ok (F.wL L w.nt) B H := ⟨w.k.e, ⟨w.k.j, fun p hp => (w.ow p hp).2.2.2.1⟩, fun a m => by
  rcases m with m | ⟨p, hp, rfl⟩
  · exact w.k.av a m
  · exact (w.ow p hp).2.2.1⟩
theorem Ow.back {hn : ∀ p ∈ L, nT p.2} (w : Ow F B0 H0 B H L) (s : Step (F.wL L hn).M B H B5 H5) (k : Ok (F.wL L hn) B5 H5) : Ow F B0 H0 B5 H5 L := ⟨⟨w.st.bb.trans s.bb, s.bh, fun a o n h => s.keep a o (fun z => by
  rcases z with z | ⟨p, hp, rfl⟩
  · exact n z
  · rw [(w.ow p hp).1] at h
    cases h) (w.st.keep a o n h), fun x h n => s.sep x (w.st.sep x h n) (w.st.liv x n), fun x n => s.live x (w.st.live x n), fun x n => s.liv x (w.st.liv x n)⟩, ⟨s.bh, k.j.1, fun a m => k.av a (.inl m)⟩, fun p hp => by
  obtain ⟨h0, nm, _, _, hn⟩ := w.ow p hp
  exact ⟨h0, nm, k.av _ (.inr ⟨p, hp, rfl⟩), k.j.2 p hp, hn⟩, w.nd⟩
theorem Ow.ext (w : Ow F B0 H0 B H L) (e : Ex H H5) : Ow F B0 H0 B H5 L := ⟨⟨w.st.bb, w.st.bh.trans e, fun a o n h => e _ _ (w.st.keep a o n h), w.st.sep, fun x n => (by
  cases hh : H x with
  | none => exact absurd hh (w.st.live x n)
  | some u =>
    rw [e _ _ hh]
    exact fun z => nomatch z), fun x n => (w.st.liv x n).elim fun u h => ⟨u, e _ _ h.1, h.2⟩⟩, ⟨w.k.e.trans e, F.up _ _ e w.k.j, w.k.av⟩, fun p hp => by
  obtain ⟨h0, nm, hb, hh, hn⟩ := w.ow p hp
  exact ⟨h0, nm, hb, e _ _ hh, hn⟩, w.nd⟩
theorem ow_tail (w : Ow F B0 H0 B H ((a, o) :: L)) : Ow F B0 H0 B H L := ⟨w.st, w.k, fun q hq => w.ow q (List.mem_cons_of_mem _ hq), (List.nodup_cons.mp (show (a :: L.map (·.1)).Nodup from w.nd)).2⟩
/-- a value is seen by an expression that changes nothing -/
def Lk (te : TE) (σ : L2.St) (H : Hp) (v : V) : Prop := ∀ Q : VK, Q v H → te σ H Q
theorem lk_var {σ : L2.St} {i : Nat} {v : V} (hi : σ[i]? = some (some v)) : Lk (tVar i) σ H v := fun Q q => ⟨v, hi, q⟩
theorem lk_fld {σ : L2.St} {te : TE} {C dx : Addr} {fs : List (Str × V)} {f : Str} {v : V} (h : Lk te σ H (.ref a)) (ha : H a = some (.ins C dx fs)) (c : Cls K C) (n : NoAttr K C f) (l : fs.lookup f = some v) : Lk (tFld K te f) σ H v := fun Q q => h _ ⟨a, C, dx, fs, v, rfl, ha, c, n, l, q⟩
/-- a field of one's own -/
theorem ev_own {hn : ∀ p ∈ L, nT p.2} {σ : L2.St} {i : Nat} {C dx : Addr} {fs : List (Str × V)} {f : Str} {v : V} (hi : σ[i]? = some (some (.ref a))) (hm : (a, HO.ins C dx fs) ∈ L) (c : Cls K C) (n : NoAttr K C f) (l : fs.lookup f = some v) : EV (F.wL L hn) (tFld K (tVar i) f) σ B (fun u _ => u = v) := fun B1 e1 H1 j1 Q1 q1 =>
  ⟨.ref a, hi, a, C, dx, fs, v, rfl, j1.j.2 _ hm, c, n, l, q1 v B1 H1 (Step.refl j1.e) j1 rfl⟩
theorem ev_ownP {hn : ∀ p ∈ L, nT p.2} {σ : L2.St} {i : Nat} {C dx : Addr} {fs : List (Str × V)} {f : Str} {v : V} {P : PV} (hi : σ[i]? = some (some (.ref a))) (hm : (a, HO.ins C dx fs) ∈ L) (c : Cls K C) (n : NoAttr K C f) (l : fs.lookup f = some v) (hu : Upc P) (hp : P v B) : EV (F.wL L hn) (tFld K (tVar i) f) σ B P := fun B1 e1 H1 j1 Q1 q1 =>
  ⟨.ref a, hi, a, C, dx, fs, v, rfl, j1.j.2 _ hm, c, n, l, q1 v B1 H1 (Step.refl j1.e) j1 (hu _ _ _ e1 hp)⟩
variable {D : Ends} {σ : L2.St} {te to tv : TE} {t : TT} {tz tu tw : TS} {P : PV} {i : Nat} {b : Bool} {xs : List V} {na : Addr} {tas : TA} {ds : List PyData}
theorem wo_asg (w : Ow F B0 H0 B H L) (h : EV (F.wL L w.nt) te σ B P) (q : ∀ v B5 H5, Ow F B0 H0 B5 H5 L → Ex B B5 → P v B5 → tz D (σ.set i (some v)) H5) : tSeq (tAsg te (gName i)) tz D σ H := h B (Ex.refl B) H w.ok _ fun v B5 H5 s5 k5 p => q v B5 H5 (w.back s5 k5) s5.bb p
theorem wo_if (w : Ow F B0 H0 B H L) (h : ETt (F.wL L w.nt) t σ B b) (h1 : b = true → ∀ B5 H5, Ow F B0 H0 B5 H5 L → Ex B B5 → tu D σ H5) (h2 : b = false → ∀ B5 H5, Ow F B0 H0 B5 H5 L → Ex B B5 → tw D σ H5) : tIfS t tu tw D σ H := h B (Ex.refl B) H w.ok _ fun B5 H5 s5 k5 => by
  cases b with
  | true =>
    show tu D σ H5
    exact h1 rfl B5 H5 (w.back s5 k5) s5.bb
  | false =>
    show tw D σ H5
    exact h2 rfl B5 H5 (w.back s5 k5) s5.bb
theorem wo_when (w : Ow F B0 H0 B H L) (h : ETt (F.wL L w.nt) t σ B b) (h1 : b = true → ∀ B5 H5, Ow F B0 H0 B5 H5 L → Ex B B5 → tu { D with nx := tz D } σ H5) (h2 : b = false → ∀ B5 H5, Ow F B0 H0 B5 H5 L → Ex B B5 → tz D σ H5) : tSeq (tIfS t tu tNext) tz D σ H := wo_if (D := { D with nx := tz D }) w h h1 h2
theorem wo_ret (w : Ow F B0 H0 B H L) (h : EV (F.wL L w.nt) te σ B P) (q : ∀ v B5 H5, Ow F B0 H0 B5 H5 L → Ex B B5 → P v B5 → D.rt v H5) : tRet te D σ H := h B (Ex.refl B) H w.ok _ fun v B5 H5 s5 k5 p => q v B5 H5 (w.back s5 k5) s5.bb p
/-- o.f = e, o one's own, the first -/
theorem wo_fldS {C dx : Addr} {fs : List (Str × V)} {f : Str} (w : Ow F B0 H0 B H ((a, .ins C dx fs) :: L)) (h : EV (F.wL ((a, .ins C dx fs) :: L) w.nt) tv σ B P) (ho : ∀ H5, Lk to σ H5 (.ref a)) (c : Cls K C) (n : NoAttr K C f) (hl : fs.length < 1000) (q : ∀ v B5 H5, Ow F B0 H0 B5 H5 ((a, .ins C dx (putF f v fs)) :: L) → Ex B B5 → P v B5 → D.nx σ H5) : sFld K to tv f D σ H := h B (Ex.refl B) H w.ok _ fun v B5 H5 s5 k5 p => by
  have w5 := w.back s5 k5
  exact ho H5 _ ⟨a, C, dx, fs, rfl, w5.here, c, n, hl, q v B5 _ (w5.set _ trivial) s5.bb p⟩
theorem wo_fld {C dx : Addr} {fs : List (Str × V)} {f : Str} (w : Ow F B0 H0 B H ((a, .ins C dx fs) :: L)) (h : EV (F.wL ((a, .ins C dx fs) :: L) w.nt) tv σ B P) (ho : ∀ H5, Lk to σ H5 (.ref a)) (c : Cls K C) (n : NoAttr K C f) (hl : fs.length < 1000) (q : ∀ v B5 H5, Ow F B0 H0 B5 H5 ((a, .ins C dx (putF f v fs)) :: L) → Ex B B5 → P v B5 → tz D σ H5) : tSeq (sFld K to tv f) tz D σ H := wo_fldS (D := { D with nx := tz D }) w h ho c n hl q
/-- o.f = [], o one's own, the first; the list is one's own, too -/
theorem wo_fldL {C dx : Addr} {fs : List (Str × V)} {f : Str} (w : Ow F B0 H0 B H ((a, .ins C dx fs) :: L)) (ho : ∀ H5, Lk to σ H5 (.ref a)) (c : Cls K C) (n : NoAttr K C f) (hl : fs.length < 1000) (q : ∀ na, Ow F B0 H0 B (upd (upd H na (.lst [])) a (.ins C dx (putF f (.ref na) fs))) ((a, .ins C dx (putF f (.ref na) fs)) :: (na, .lst []) :: L) → tz D σ (upd (upd H na (.lst [])) a (.ins C dx (putF f (.ref na) fs)))) : tSeq (sFld K to (tLst tNil) f) tz D σ H :=
  ⟨Nat.zero_le _, fun na hna => by
    have w2 := (w.new (o := .lst []) hna trivial).swap
    exact ho _ _ ⟨a, C, dx, fs, rfl, w2.here, c, n, hl, q na (w2.set _ trivial)⟩⟩
/-- x.append(e), x seen by a look -/
theorem wo_app (w : Ow F B0 H0 B H ((na, .lst xs) :: L)) (ho : Lk to σ H (.ref na)) (h : EV (F.wL ((na, .lst xs) :: L) w.nt) te σ B P) (hl : xs.length < 16777216) (q : ∀ v B5 H5, Ow F B0 H0 B5 H5 ((na, .lst (xs ++ [v])) :: L) → Ex B B5 → P v B5 → tz D σ H5) : tSeq (tDrop (tBM K "list" rAppend to (tCons te tNil))) tz D σ H :=
  ho _ (.inl ⟨rfl, _, sq_of w.here⟩ |> fun h0 => ⟨h0, h B (Ex.refl B) H w.ok _ fun v B5 H5 s5 k5 p => ⟨na, xs, v, rfl, rfl, (w.back s5 k5).here, by rw [sizeLine_eq]; exact hl, q v B5 _ ((w.back s5 k5).set _ trivial) s5.bb p⟩⟩)
end
end Dx

/-! zip of an empty tuple and a list -/
namespace Zt
open PySem PySem.Spec PyProof.Rows L2
open PySem.Sem (wp)
section
variable {prog : Program} {w : World} {A : Around} {E : Value → Shared → Prop} {s : Shared}
theorem next_end {z TI TO i1 i2 l1 l2 : Addr} {k1 : Nat} {xs : Array Value} {a b : Value} {Q : Fin → Shared → Prop} (hh : A.handled = none) (D : ZipApart z TI TO i1 i2 l1 l2)
    (hz : IsZip s.heap z TI TO .none) (hTI : IsPair s.heap TI (.ref i1) (.ref i2)) (hTO : IsPair s.heap TO a b)
    (h1 : s.heap.IsTupleIter i1 l1 k1) (hl1 : s.heap.IsTuple l1 xs) (hx : xs[k1]? = none)
    (hE : ∀ h' e, (∀ c o, c ≠ z → c ≠ i1 → s.heap.get? c = some o → h'.get? c = some o) → (∃ o, h'.get? e = some o ∧ o.cls = .type "StopIteration") → E (.ref e) { s with heap := h' }) :
    wpAny (model prog w) A (Builtin.«zip.__next__» ⟨[.ref z], []⟩) Q E s := by
  show wpAny _ _ (field (.ref z) 2 >>= _) _ _ _
  refine wpAny_bind (wpAny_field hz rfl (x := .bool false) rfl ?_)
  show wpAny _ _ (field (.ref z) 3 >>= _) _ _ _
  refine wpAny_bind (wpAny_field hz rfl (x := .ref TI) rfl ?_)
  refine wpAny_bind (wpAny_seqItems hTI rfl ?_)
  show wpAny _ _ (Builtin.SmallTypes.ownedTupleIsFree (.ref z) >>= _) _ _ _
  refine wpAny_bind ?_
  unfold Builtin.SmallTypes.ownedTupleIsFree
  refine wpAny_bind (wpAny_field hz rfl (x := .none) rfl (wpAny_pure ?_))
  simp only [if_true]
  refine wpAny_bind (wpAny_rule ?_)
  refine wpAny_bind (wpAny_field hz rfl (x := .ref TO) rfl ?_)
  refine wpAny_bind (wpAny_setField_rec hz (by simp) fun h₁ hz₁ hs₁ => ?_)
  replace hz₁ : IsZip h₁ z TI TO .ellipsis := hz₁
  refine wpAny_bind ?_
  simp only [List.zipIdx_cons, List.zipIdx_nil, List.forIn_cons, List.forIn_nil]
  refine wpAny_bind (wpAny_bind (wpAny_onRaise ?_))
  show wpAny _ _ (Builtin.SmallTypes.nextOf (.ref i1) >>= _) _ _ _
  refine wpAny_bind (RZ.nextOf_tuple_end hh (h1.extBut hs₁.extBut D.i1z) (hl1.extBut hs₁.extBut D.l1z) hx fun h₂ e hs₂ he => ?_)
  obtain ⟨oe, hoe, hce⟩ := he
  have hz₂ : IsZip h₂ z TI TO .ellipsis := hs₂ _ _ D.i1z.symm hz₁
  have hez : e ≠ z := fun x => by subst x; rw [hz₂] at hoe; cases hoe; simp at hce
  refine wpAny_setField_rec hz₂ (by simp) fun h₃ _ hs₃ => hE h₃ e (fun c o c1 c3 x => hs₃.extBut _ _ c1 (hs₂ _ _ c3 (hs₁.extBut _ _ c1 x))) ⟨oe, hs₃.extBut _ _ hez hoe, hce⟩
theorem pyNext_end {z TI TO i1 i2 l1 l2 : Addr} {k1 : Nat} {xs : Array Value} {a b : Value} {Q : Option Value → Shared → Prop} (hh : A.handled = none) (D : ZipApart z TI TO i1 i2 l1 l2)
    (hz : IsZip s.heap z TI TO .none) (hTI : IsPair s.heap TI (.ref i1) (.ref i2)) (hTO : IsPair s.heap TO a b)
    (h1 : s.heap.IsTupleIter i1 l1 k1) (hl1 : s.heap.IsTuple l1 xs) (hx : xs[k1]? = none)
    (hQ : ∀ h', (∀ c o, c ≠ z → c ≠ i1 → s.heap.get? c = some o → h'.get? c = some o) → Q none { s with heap := h' }) : wpAny (model prog w) A (pyNext (.ref z)) Q E s := by
  have hT : s.TypeIs (.ref z) "zip" := ⟨_, hz, rfl⟩
  unfold pyNext
  refine wpAny_bind (wpAny_attempt (wpAny_callSpecial?_slot (name := Str.ofString "__next__") hT F.slot_zip_next
    (wpAny_call_entry F.slot_zip_next hT F.entry_zip_next (next_end hh D hz hTI hTO h1 hl1 hx fun h' e hk he => ?_) (F.args_zip_next_1 _))))
  obtain ⟨o, ho, hc⟩ := he
  refine wpAny_bind (wpAny_isInstance (T := "StopIteration") (b := true) ⟨o, ho, hc⟩ isSubtype_stop ?_)
  exact wpAny_pure (hQ _ hk)
abbrev zH1 (h : Heap) (l1 : Addr) : Heap := h.push { cls := .type "tuple_iterator", data := .fields #[.ref l1, .int 0 0] }
abbrev zH2 (h : Heap) (l1 l2 : Addr) : Heap := (zH1 h l1).push { cls := .type "list_iterator", data := .fields #[.ref l2, .int 0 0] }
abbrev zH3 (h : Heap) (l1 l2 : Addr) : Heap := (zH2 h l1 l2).push { cls := .type "tuple", data := .seq #[.ref h.objs.size, .ref (zH1 h l1).objs.size] }
abbrev zH4 (h : Heap) (l1 l2 : Addr) : Heap := (zH3 h l1 l2).push { cls := .type "tuple", data := .seq #[.none, .none] }
abbrev zH5 (h : Heap) (l1 l2 : Addr) : Heap := (zH4 h l1 l2).push { cls := .type "zip", data := .fields #[.none, .bool false, .bool false, .ref (zH2 h l1 l2).objs.size, .ref (zH3 h l1 l2).objs.size] }
theorem meets_new (l1 l2 : Addr) (xs ys : Array Value) :
    Meets (Builtin.«zip.__new__» ⟨[.type "zip", .ref l1, .ref l2], []⟩) (fun _ R s => s.heap.IsTuple l1 xs ∧ s.heap.IsList l2 ys ∧
      R (.ok (.ret (.ref (zH4 s.heap l1 l2).objs.size))) { s with heap := zH5 s.heap l1 l2 }) :=
  .of_wp fun prog w A R s h => by
    obtain ⟨hp, g, d, tk, os⟩ := s; obtain ⟨hl1, hl2, h⟩ := h
    have hsub := sub_zip
    have hL1 : Heap.IsTuple (Shared.heap ⟨hp, g, d, tk, os⟩) l1 xs := hl1
    have hL2 : Heap.IsList (Shared.heap ⟨hp.push { cls := .type "tuple_iterator", data := .fields #[.ref l1, .int 0 0] }, g, d, tk, os⟩) l2 ys := Heap.IsList.push hl2 _
    wp_walk using wpAny_pyIter_tuple hL1, wpAny_pyIter_list hL2
    exact ⟨_, rfl, h⟩
theorem call_new {l1 l2 : Addr} {xs ys : Array Value} {Q : Value → Shared → Prop} (hl1 : s.heap.IsTuple l1 xs) (hl2 : s.heap.IsList l2 ys)
    (h : ∀ h', IsZip h' (s.heap.objs.size + 4) (s.heap.objs.size + 2) (s.heap.objs.size + 3) .none → IsPair h' (s.heap.objs.size + 2) (.ref s.heap.objs.size) (.ref (s.heap.objs.size + 1)) →
      IsPair h' (s.heap.objs.size + 3) .none .none → h'.IsTupleIter s.heap.objs.size l1 0 → h'.IsListIter (s.heap.objs.size + 1) l2 0 → h'.objs.size = s.heap.objs.size + 5 →
      (∀ c o, s.heap.get? c = some o → h'.get? c = some o) → Q (.ref (s.heap.objs.size + 4)) { s with heap := h' }) :
    wpAny (model prog w) A (call (.type "zip") [.ref l1, .ref l2]) Q E s := by
  refine callType_new F.called_zip (by decide) (F.typeCall_zip_2 _ _) (F.newCall_zip_2 _ _) (fun obj => F.args_object_init_3 obj _ _) F.entry_zip_new
    (meets_new l1 l2 xs ys) ⟨hl1, hl2, ?_⟩
  have z1 : (zH1 s.heap l1).objs.size = s.heap.objs.size + 1 := Heap.size_push ..
  have z2 : (zH2 s.heap l1 l2).objs.size = s.heap.objs.size + 2 := by rw [Heap.size_push, z1]
  have z3 : (zH3 s.heap l1 l2).objs.size = s.heap.objs.size + 3 := by rw [Heap.size_push, z2]
  have z4 : (zH4 s.heap l1 l2).objs.size = s.heap.objs.size + 4 := by rw [Heap.size_push, z3]
  have z5 : (zH5 s.heap l1 l2).objs.size = s.heap.objs.size + 5 := by rw [Heap.size_push, z4]
  have g5 : (zH5 s.heap l1 l2).get? (zH4 s.heap l1 l2).objs.size = some _ := Heap.get?_push_size _ rfl
  have g4 : (zH5 s.heap l1 l2).get? (zH3 s.heap l1 l2).objs.size = some _ := Heap.get?_push_of_some _ (Heap.get?_push_size _ rfl)
  have g3 : (zH5 s.heap l1 l2).get? (zH2 s.heap l1 l2).objs.size = some _ := Heap.get?_push_of_some _ (Heap.get?_push_of_some _ (Heap.get?_push_size _ rfl))
  have g2 : (zH5 s.heap l1 l2).get? (zH1 s.heap l1).objs.size = some _ := Heap.get?_push_of_some _ (Heap.get?_push_of_some _ (Heap.get?_push_of_some _ (Heap.get?_push_size _ rfl)))
  have g1 : (zH5 s.heap l1 l2).get? s.heap.objs.size = some _ := Heap.get?_push_of_some _ (Heap.get?_push_of_some _ (Heap.get?_push_of_some _ (Heap.get?_push_of_some _ (Heap.get?_push_size _ rfl))))
  show _ ∧ _
  rw [z2, z3, z4] at g5
  rw [z1, z2] at g3
  rw [z3] at g4
  rw [z1] at g2
  rw [z4]
  exact ⟨⟨_, g5, rfl⟩, h _ g5 g3 g4 ⟨_, g1, rfl, rfl⟩ ⟨_, g2, rfl, rfl⟩ z5 fun c o x =>
    Heap.get?_push_of_some _ (Heap.get?_push_of_some _ (Heap.get?_push_of_some _ (Heap.get?_push_of_some _ (Heap.get?_push_of_some _ x))))⟩
end
def ItE (K : PySem.W.Frag) (a : Addr) : It := ⟨fun _ _ => False, fun _ _ _ _ => False, fun _ H => SqT K H a []⟩
theorem turn_E {P : Program} {w : World} {K : PySem.W.Frag} {elts : List Expr} {kk : Nat} {tpos : Pos} {a b z TI TO i1 i2 : Addr} (D : ZipApart z TI TO i1 i2 a b) :
    Turn P w K (.Tuple elts kk tpos) (ItE K a) [z, TI, TO, i1, i2] z (fun _ h => IsZip h z TI TO .none ∧ IsPair h TI (.ref i1) (.ref i2) ∧ (∃ x y, IsPair h TO x y) ∧ h.IsTupleIter i1 a 0 ∧ h.IsListIter i2 b 0) where
  mem := by simp
  obj := fun i h st c hc => by
    obtain ⟨hz, hTI, ⟨x, y, hTO⟩, ⟨o1, e1, _, d1⟩, ⟨o2, e2, _, d2⟩⟩ := st
    have e' : c = z ∨ c = TI ∨ c = TO ∨ c = i1 ∨ c = i2 := by simpa using hc
    rcases e' with q | q | q | q | q
    · rw [q]; exact ⟨_, hz, fun v q => nomatch q⟩
    · rw [q]; exact ⟨_, hTI, fun v q => nomatch q⟩
    · rw [q]; exact ⟨_, hTO, fun v q => nomatch q⟩
    · rw [q]; exact ⟨o1, e1, fun v q => by rw [d1] at q; cases q⟩
    · rw [q]; exact ⟨o2, e2, fun v q => by rw [d2] at q; cases q⟩
  keep := fun i h h' st k => by
    obtain ⟨hz, hTI, ⟨x, y, hTO⟩, h1, ⟨o2, e2, c2, d2⟩⟩ := st
    exact ⟨k z (by simp) _ hz, k TI (by simp) _ hTI, ⟨x, y, k TO (by simp) _ hTO⟩, h1.at fun o q => k i1 (by simp) o q, ⟨o2, k i2 (by simp) _ e2, c2, d2⟩⟩
  item := by
    intro X hP hw hK hc i pins s σ H E I hf st hg
    exact hg.elim
  done := by
    intro X hP hw hK hc i pins s σ H E I hf st hg
    subst hP hw hK
    obtain ⟨hz, hTI, ⟨x0, y0, hTO⟩, h1, h2⟩ := st
    obtain ⟨its, rv, p, _⟩ := I.tuple (show SqT X.K H a [] from hg)
    cases rv
    exact pyNext_end (I.ok.hd hc) D hz hTI hTO h1 p rfl fun h' hk => ⟨rfl, I.turnedL (t' := s.toks) (ch := [z, TI, TO, i1, i2]) (fun c o hb q =>
      hk c o (fun q' => hb (by simp [q'])) (fun q' => hb (by simp [q'])) q) hf⟩
  self := fun A i s Q E st h => wpAny_pyIter_zip st.1 h
def iZipE (K : PySem.W.Frag) (ta : TA) : TI := fun σ H R => ta σ H fun vs H1 => ∃ a b ys, vs = [.ref a, .ref b] ∧ SqT K H1 a [] ∧ SqL K H1 b ys ∧ R (ItE K a) H1
theorem pi_zipE {X : Cx} (K : PySem.W.Frag) {e e2 : Expr} {ta : TA} {p pos tpos : Pos} {elts : List Expr} {kk : Nat} (hg : Gl X "zip") (hm : X.mg "zip" = none) (ha : PA X [e, e2] ta) (hK : X.K = K := by rfl)
    (hs : starEach [e, e2] X.env = (false, eval e X.env) :: starEach [e2] X.env := by rfl) (hpl : (backTo pos (starEach [e2] X.env)).any (·.1) = false := by rfl) :
    PI X (.Tuple elts kk tpos) (.Call (.Name "zip" p) [e, e2] [] pos) (iZipE K ta) := by
  subst hK
  refine ⟨fun pins s σ H R I h => ?_⟩
  refine Call_ (ld_blt I hg hm PyProof.Rows.boot_zip (PyProof.Rows.callWith_type1 (thn (ha.run pos pins s σ H _ I h) fun us s1 ⟨vs, H1, I1, r1, q1⟩ => ?_) hs hpl))
  obtain ⟨a, b, ys, ex, hqx, hqy, q⟩ := q1
  subst ex
  cases r1 with
  | cons r rr =>
    cases rr with
    | cons r' rr =>
      cases rr
      cases r
      cases r'
      have fresh5 : ∀ c, c ∈ [s1.heap.objs.size + 4, s1.heap.objs.size + 2, s1.heap.objs.size + 3, s1.heap.objs.size, s1.heap.objs.size + 1] → FpOk X pins H1 c := fun c hcm => by
        have e' : c = s1.heap.objs.size + 4 ∨ c = s1.heap.objs.size + 2 ∨ c = s1.heap.objs.size + 3 ∨ c = s1.heap.objs.size ∨ c = s1.heap.objs.size + 1 := by simpa using hcm
        have hle : s1.heap.objs.size ≤ c := by omega
        exact I1.fpOk hle (I1.hok.fresh hle)
      obtain ⟨its, rv, p1, _⟩ := I1.tuple hqx
      obtain ⟨its2, rv2, p2, _⟩ := I1.list hqy
      obtain ⟨o1, ho1, _⟩ := id p1
      refine call_new (show s1.heap.IsTuple a its.toArray from p1) p2.isList fun h' hz hTI hTO h1 h2 hsz hk => wpAny_pyIter_zip hz ?_
      have I2 : Inv X pins σ H1 { s1 with heap := h' } := I1.kept (t' := s1.toks) hk
      exact ⟨s1.heap.objs.size + 4, [s1.heap.objs.size + 4, s1.heap.objs.size + 2, s1.heap.objs.size + 3, s1.heap.objs.size, s1.heap.objs.size + 1], _, _, H1, rfl, I2, turn_E (PySem.W.ktu_apart s1.heap.objs.size a b (Heap.lt_size ho1) p2.lt), ⟨hz, hTI, ⟨_, _, hTO⟩, h1, h2⟩, fresh5, q⟩
end Zt

/-! k02: the data that the defs speak of. -/
namespace K50
open PySem PySem.Spec PyProof.Rows L2 Evl Ex Dx
open PySem.PyData (strOk)
/-! ### data of limited depth -/
def Sm (n : Nat) (d : PyData) : Prop := d.canLay0 = true ∧ d.depth ≤ n
theorem Sm.sh {n : Nat} {d : PyData} (h : Sm n d) (hn : n ≤ 64 := by decide) : SeqAt.shaped d = true := by
  unfold SeqAt.shaped
  rw [h.1, Bool.true_and, decide_eq_true_eq]
  exact Nat.le_trans h.2 hn
theorem Sm.le {n m : Nat} {d : PyData} (h : Sm n d) (hn : n ≤ m) : Sm m d := ⟨h.1, Nat.le_trans h.2 hn⟩
theorem layAll_of : ∀ {ds : List PyData}, (∀ d ∈ ds, d.canLay0 = true) → PyData.canLayAll0 ds = true
  | [], _ => by simp [PyData.canLayAll0]
  | d :: ds, h => by
    simp only [PyData.canLayAll0]
    rw [h d List.mem_cons_self, layAll_of fun x hx => h x (List.mem_cons_of_mem _ hx)]
    rfl
theorem layAll_mem : ∀ {ds : List PyData} {d : PyData}, PyData.canLayAll0 ds = true → d ∈ ds → d.canLay0 = true
  | x :: ds, d, h, hm => by
    have h' : x.canLay0 = true ∧ PyData.canLayAll0 ds = true := by simpa [PyData.canLayAll0] using h
    rcases List.mem_cons.mp hm with rfl | hm
    · exact h'.1
    · exact layAll_mem h'.2 hm
theorem depthAll_of {n : Nat} : ∀ {ds : List PyData}, (∀ d ∈ ds, d.depth ≤ n) → PyData.depthAll ds ≤ n
  | [], _ => by simp [PyData.depthAll]
  | d :: ds, h => by
    simp only [PyData.depthAll]
    exact Nat.max_le.mpr ⟨h d List.mem_cons_self, depthAll_of fun x hx => h x (List.mem_cons_of_mem _ hx)⟩
theorem depthAll_mem : ∀ {ds : List PyData} {d : PyData}, d ∈ ds → d.depth ≤ PyData.depthAll ds
  | x :: ds, d, hm => by
    simp only [PyData.depthAll]
    rcases List.mem_cons.mp hm with rfl | hm
    · exact Nat.le_max_left _ _
    · exact Nat.le_trans (depthAll_mem hm) (Nat.le_max_right _ _)
theorem sm_tup {n : Nat} {ds : List PyData} (h : ∀ d ∈ ds, Sm n d) : Sm (n + 1) (.tuple ds) := ⟨by
  simp only [PyData.canLay0]
  exact layAll_of fun d hd => (h d hd).1, by
  simp only [PyData.depth]
  exact Nat.succ_le_succ (depthAll_of fun d hd => (h d hd).2)⟩
theorem sm_lst {n : Nat} {ds : List PyData} (h : ∀ d ∈ ds, Sm n d) : Sm (n + 1) (.list ds) := ⟨by
  simp only [PyData.canLay0]
  exact layAll_of fun d hd => (h d hd).1, by
  simp only [PyData.depth]
  exact Nat.succ_le_succ (depthAll_of fun d hd => (h d hd).2)⟩
theorem Sm.memT {n : Nat} {ds : List PyData} (h : Sm n (.tuple ds)) {d : PyData} (hd : d ∈ ds) : Sm (n - 1) d := ⟨layAll_mem (by simpa [PyData.canLay0] using h.1) hd, by
  have h1 : PyData.depthAll ds + 1 ≤ n := by simpa [PyData.depth] using h.2
  have h2 := depthAll_mem hd
  omega⟩
theorem Sm.memL {n : Nat} {ds : List PyData} (h : Sm n (.list ds)) {d : PyData} (hd : d ∈ ds) : Sm (n - 1) d := ⟨layAll_mem (by simpa [PyData.canLay0] using h.1) hd, by
  have h1 : PyData.depthAll ds + 1 ≤ n := by simpa [PyData.depth] using h.2
  have h2 := depthAll_mem hd
  omega⟩
theorem sm_int {n : Nat} {i : Int} : Sm (n + 1) (.int i) := ⟨by simp [PyData.canLay0], by simp [PyData.depth]⟩
theorem sm_bool {n : Nat} {b : Bool} : Sm (n + 1) (.bool b) := ⟨by simp [PyData.canLay0], by simp [PyData.depth]⟩
theorem sm_none {n : Nat} : Sm (n + 1) .none := ⟨by simp [PyData.canLay0], by simp [PyData.depth]⟩
theorem sm_str {n : Nat} {s : Str} (h : strOk s = true) : Sm (n + 1) (.str s) := ⟨by simpa [PyData.canLay0] using h, by simp [PyData.depth]⟩
theorem Sm.str {n : Nat} {s : Str} (h : Sm n (.str s)) : strOk s = true := by simpa [PyData.canLay0] using h.1
theorem sgn_ok {s : Str} (h : strOk s = true) {c : Nat} (hc : c ∈ s.cps.toList) : strOk (sgn c) = true := by
  unfold strOk at h ⊢
  have h1 := Array.all_eq_true_iff_forall_mem.mp h c (Array.mem_toList_iff.mp hc)
  simpa [sgn] using h1
theorem sm_filter {n : Nat} {ds : List PyData} {p : PyData → Bool} (h : ∀ d ∈ ds, Sm n d) : Sm (n + 1) (.list ((ds.filter p).map fun d => d)) := sm_lst fun d hd => by
  rw [List.map_id'] at hd
  exact h d ((List.mem_filter.mp hd).1)
theorem eqv_nil : ∀ ds : List PyData, PyData.eqv (.list ds) (.list []) = ds.isEmpty
  | [] => by simp [PyData.eqv, PyData.eqvAll]
  | d :: ds => by simp [PyData.eqv, PyData.eqvAll]
theorem eqv_int (a b : Int) : PyData.eqv (.int a) (.int b) = (a == b) := by simp [PyData.eqv]
theorem eqv_str (a b : Str) : PyData.eqv (.str a) (.str b) = (a == b) := by simp [PyData.eqv]
theorem filter_emp {α : Type} (p : α → Bool) : ∀ l : List α, (l.filter p).isEmpty = l.all fun x => !p x
  | [] => rfl
  | x :: l => by
    rw [List.filter_cons, List.all_cons]
    by_cases h : p x = true
    · rw [if_pos h, h]
      rfl
    · rw [if_neg h, filter_emp p l]
      simp [h]
theorem mapb {α : Type} (l : List α) (f : α → Bool) : (l.filter fun _ => true).map (fun c => PyData.bool (f c)) = (l.map f).map PyData.bool := by
  rw [List.filter_eq_self.mpr (fun _ _ => rfl), List.map_map]
  rfl
theorem all_id {α : Type} (l : List α) (f : α → Bool) : (l.map f).all id = l.all f := by rw [List.all_map]; rfl
/-! ### words, rules -/
def loS (c : Nat) : Bool := decide ((sgn c).cps.toList < (("a" : Str)).cps.toList)
def hiS (c : Nat) : Bool := decide ((("z" : Str)).cps.toList < (sgn c).cps.toList)
def wordD : PyData → Bool
  | .str s => (decide ((1 : Int) ≤ (s.length : Nat)) && decide (((s.length : Nat) : Int) ≤ 3)) && s.cps.toList.all fun c => !loS c && !hiS c
  | _ => false
theorem wordD_str (s : Str) : wordD (.str s) = ((decide ((1 : Int) ≤ (s.length : Nat)) && decide (((s.length : Nat) : Int) ≤ 3)) && s.cps.toList.all fun c => !loS c && !hiS c) := rfl
abbrev WSH : List Str := ["left", "right"]
abbrev OSH : List Str := ["same", "first", "last"]
abbrev TSH : List Str := ["wrap", "ahead", "behind"]
def inS (s : Str) (L : List Str) : Bool := L.any fun x => x == s
theorem inD_str (s : Str) (L : List Str) : inD (.str s) (L.map .str) = inS s L := by
  unfold inD inS
  rw [List.any_map]
  exact congrArg (fun f => L.any f) (funext fun x => eqv_str x s)
/-- the last parts of a rule whose first part and shape are right -/
def tailD (s : Str) (ps : List PyData) (n : Int) : Bool :=
  if inS s WSH then decide (ps.length = 1) && wordD (ps.getD 0 .none)
  else if inS s OSH then decide (ps.length = 1) && inB (ps.getD 0 .none) 0 (n - 1)
  else inS s TSH && (decide (ps.length = 2) && ps.all fun d => inB d 0 (n - 1))
def ruleD (d : PyData) (n : Int) : Bool := match d with
  | .tuple (a :: .str s :: p :: ps) => inB a 0 (n - 1) && tailD s (p :: ps) n
  | _ => false
def rulesD (d : PyData) (n : Int) : Bool := match d with
  | .tuple rs => (decide ((1 : Int) ≤ (rs.length : Nat)) && decide (((rs.length : Nat) : Int) ≤ 90)) && rs.all fun r => ruleD r n
  | _ => false
theorem rulesD_tup (rs : List PyData) (n : Int) : rulesD (.tuple rs) n = ((decide ((1 : Int) ≤ (rs.length : Nat)) && decide (((rs.length : Nat) : Int) ≤ 90)) && rs.all fun r => ruleD r n) := rfl
/-- a valid rule, in full -/
theorem ruleD_is {d : PyData} {n : Int} (h : ruleD d n = true) : ∃ (a : Int) (s : Str) (p : PyData) (ps : List PyData), d = .tuple (.int a :: .str s :: p :: ps) ∧ 0 ≤ a ∧ a < n ∧ tailD s (p :: ps) n = true := by
  unfold ruleD at h
  split at h
  · rename_i a s p ps
    rw [Bool.and_eq_true] at h
    obtain ⟨h1, h2⟩ := h
    cases a with
    | int i =>
      unfold inB at h1
      simp only [Bool.and_eq_true, decide_eq_true_eq] at h1
      exact ⟨i, s, p, ps, rfl, h1.1, by omega, h2⟩
    | _ => cases h1
  · cases h
theorem tailD_one {s : Str} {p : PyData} {ps : List PyData} {n : Int} (h : tailD s (p :: ps) n = true) (ho : inS s OSH = true) : ps = [] ∧ ∃ c : Int, p = .int c ∧ 0 ≤ c ∧ c < n := by
  unfold tailD at h
  have hw : inS s WSH = false := by
    unfold inS at ho ⊢
    simp only [List.any_cons, List.any_nil, Bool.or_false, Bool.or_eq_true, beq_iff_eq] at ho
    rcases ho with rfl | rfl | rfl <;> decide +kernel
  rw [hw, if_neg (by decide), if_pos ho, Bool.and_eq_true, decide_eq_true_eq] at h
  obtain ⟨h1, h2⟩ := h
  have e : ps = [] := by
    cases ps with
    | nil => rfl
    | cons _ _ => simp at h1
  subst e
  have h3 : inB p 0 (n - 1) = true := h2
  cases p with
  | int i =>
    unfold inB at h3
    simp only [Bool.and_eq_true, decide_eq_true_eq] at h3
    exact ⟨rfl, i, rfl, h3.1, by omega⟩
  | _ => cases h3
/-! ### steps -/
def isOne (d : PyData) : Bool := match d with
  | .tuple (_ :: .str s :: _) => inS s OSH
  | _ => false
def edge (d : PyData) : Int × Int := match d with
  | .tuple [.int a, _, .int c] => (a, c)
  | _ => (0, 0)
def edges (rs : List PyData) : List (Int × Int) := (rs.filter isOne).map edge
theorem one_is {d : PyData} {n : Int} (h : ruleD d n = true) (ho : isOne d = true) : ∃ (a : Int) (s : Str) (c : Int), d = .tuple [.int a, .str s, .int c] ∧ 0 ≤ a ∧ a < n ∧ 0 ≤ c ∧ c < n ∧ inS s OSH = true := by
  obtain ⟨a, s, p, ps, rfl, h1, h2, h3⟩ := ruleD_is h
  obtain ⟨rfl, c, rfl, h4, h5⟩ := tailD_one h3 ho
  exact ⟨a, s, c, rfl, h1, h2, h4, h5, ho⟩
theorem edges_in {rs : List PyData} {n : Int} (h : ∀ r ∈ rs, ruleD r n = true) (a b : Int) (hm : (a, b) ∈ edges rs) : 0 ≤ a ∧ a < n ∧ 0 ≤ b ∧ b < n := by
  obtain ⟨r, hr, he⟩ := List.mem_map.mp hm
  obtain ⟨h1, h2⟩ := List.mem_filter.mp hr
  obtain ⟨a', s, c, rfl, g1, g2, g3, g4, _⟩ := one_is (h r h1) h2
  cases he
  exact ⟨g1, g2, g3, g4⟩
theorem edges_len (rs : List PyData) : (edges rs).length ≤ rs.length := by
  unfold edges
  rw [List.length_map]
  exact List.length_filter_le _ _
def toD (p : Int × Int) : PyData := .tuple [.int p.1, .int p.2]
def optD : Option Int → PyData
  | some k => .int k
  | none => .none
/-- the least kind that comes back to itself -/
def backK (E : List (Int × Int)) (n : Nat) : Option Int := ((List.range n).find? fun (k : Nat) => (Gm.turns E (k : Int) (n + 1)).contains (k : Int)).map fun k => (k : Int)
theorem backK_bk {E : List (Int × Int)} {n : Nat} (hE : ∀ a b, (a, b) ∈ E → 0 ≤ b ∧ b < (n : Int)) : Gm.BK E n (backK E n) := by
  have key : ∀ k : Nat, (Gm.turns E (k : Int) (n + 1)).contains (k : Int) = true ↔ Gm.Rch E k k := fun k => by
    rw [List.contains_iff_mem]
    exact Gm.turns_all hE k
  unfold backK
  cases h : (List.range n).find? fun (k : Nat) => (Gm.turns E (k : Int) (n + 1)).contains (k : Int) with
  | none =>
    refine .none fun j h0 h1 r => ?_
    have h2 := List.find?_eq_none.mp h j.toNat (List.mem_range.mpr (by omega))
    have e : ((j.toNat : Nat) : Int) = j := by omega
    refine h2 ((key _).mpr ?_)
    rw [e]
    exact r
  | some k =>
    have h1 := List.find?_some h
    have hlt : k < n := List.mem_range.mp (List.mem_of_find?_eq_some h)
    refine .some (k : Int) (by omega) (by omega) ((key k).mp h1) fun j h0 h2 r => ?_
    have e : ((j.toNat : Nat) : Int) = j := by omega
    have hj : j.toNat < k := by omega
    rw [List.find?_range_eq_some] at h
    have h3 := h.2.2 j.toNat hj
    rw [Bool.not_eq_true', ← Bool.not_eq_true] at h3
    refine h3 ((key _).mpr ?_)
    rw [e]
    exact r
/-- what Pairs(kinds, rules) tells -/
def dueD (k r : PyData) : PyData := match k with
  | .int n => if 1 ≤ n ∧ n ≤ 40 then (if rulesD r n = true then (match r with
      | .tuple rs => (match backK (edges rs) n.toNat with | none => .tuple [.str "kept", .int n, r] | some b => .tuple [.str "endless", .int b])
      | _ => .none) else .tuple [.str "rules", r]) else .tuple [.str "number", k]
  | _ => .tuple [.str "number", k]
end K50

namespace K50
open PySem PySem.Spec PyProof.Rows L2 Evl Ex Dx
open PySem.PyData (strOk)

def topS (i : Nat) : Stmt := PySem.Challenge.pw_treestacks_k50_edits_at_a_desk.main.body.getD i (.Pass ⟨0, 0, 0, 0⟩)

structure TupC (K : PySem.W.Frag) (mg : Str → Option Value) (x : Str) (L : List Str) : Prop where
  ex : ∃ W, mg x = some (.ref W) ∧ ∀ H, Dd K H (.ref W) (.tuple (L.map .str))
structure TC (K : PySem.W.Frag) (mg : Str → Option Value) : Prop extends TB mg where
  c_MOST_RULES_AT_DESK : ∃ t, mg "MOST_RULES_AT_DESK" = some (.int 12 t)
  c_MOST_STEPS : ∃ t, mg "MOST_STEPS" = some (.int 90 t)
  c_NOT_LIVE : ∃ t, mg "NOT_LIVE" = some (.int (-1) t)
  c_ENDLESS : ∃ t, mg "ENDLESS" = some (.int (-2) t)
  c_MOST_LETTERS : ∃ t, mg "MOST_LETTERS" = some (.int 3 t)
  c_MOST_RULES : ∃ t, mg "MOST_RULES" = some (.int 90 t)
  c_MOST_KINDS : ∃ t, mg "MOST_KINDS" = some (.int 40 t)
  w_WORD : TupC K mg "WORD_SHAPES" WSH
  w_ONE : TupC K mg "ONE_SHAPES" OSH
  w_TWO : TupC K mg "TWO_SHAPES" TSH

section
variable {P : Program} {w : World} {K : PySem.W.Frag} {mg : Str → Option Value} {base : Heap} {f : Addr} {fd : FuncData}

abbrev s_InvalidNumber_init : Stmt := inClass (topS 11) 0
abbrev N_InvalidNumber_init : List Str := ["self", "value"]
theorem sc_InvalidNumber_init : FnScope N_InvalidNumber_init ["self", "value"] (defScope s_InvalidNumber_init) := ⟨rfl, rfl, rfl, by decide +kernel, rfl, by decide +kernel, by decide +kernel⟩
theorem ok_InvalidNumber {fI G C : Addr} {mc : Value} (F : Fun K "__init__" "InvalidNumber.__init__" s_InvalidNumber_init fI fd) (hg : mg "GraftError" = some (.ref G)) (rd : ClX.CRead K G mc) (gi : PySem.W.findCls K (.ref G) mc "__init__" = some (.val (.builtin "ValueError.__init__"))) (oc : OexC K C) (no : PySem.W.findIn K (.ref C) "value" = some none) :
    FnOk P w K mg base CX0 1 fI fd ["self", "value"] (spInit C "value") := by
  refine F.ok sc_InvalidNumber_init (fun vs H Q E h => ?_) (fun cdv A outer s H vs Q E hr h => ?_)
  · obtain ⟨a, v, rfl, _⟩ := h
    rfl
  · obtain ⟨a, v, rfl, ha, k⟩ := h
    refine ⟨_, (pss_cons (ps_expr (pe_ginit rd gi rfl hg (pa_cons (pv 0) (pa_cons pe_str pa_nil))))
      (pss_one (ps_ost (pv 0) (pv 1)))), ?_⟩
    refine ⟨.ref a, rfl, a, C, _, rfl, (by show 1 ≤ 1000; decide), oc, ha, ?_⟩
    exact ⟨v, rfl, .ref a, rfl, a, C, rfl, oc, no, .inl ⟨ha, fun dx hdx hne => k dx hdx hne⟩⟩
abbrev s_InvalidRules_init : Stmt := inClass (topS 12) 0
abbrev N_InvalidRules_init : List Str := ["self", "value"]
theorem sc_InvalidRules_init : FnScope N_InvalidRules_init ["self", "value"] (defScope s_InvalidRules_init) := ⟨rfl, rfl, rfl, by decide +kernel, rfl, by decide +kernel, by decide +kernel⟩
theorem ok_InvalidRules {fI G C : Addr} {mc : Value} (F : Fun K "__init__" "InvalidRules.__init__" s_InvalidRules_init fI fd) (hg : mg "GraftError" = some (.ref G)) (rd : ClX.CRead K G mc) (gi : PySem.W.findCls K (.ref G) mc "__init__" = some (.val (.builtin "ValueError.__init__"))) (oc : OexC K C) (no : PySem.W.findIn K (.ref C) "value" = some none) :
    FnOk P w K mg base CX0 1 fI fd ["self", "value"] (spInit C "value") := by
  refine F.ok sc_InvalidRules_init (fun vs H Q E h => ?_) (fun cdv A outer s H vs Q E hr h => ?_)
  · obtain ⟨a, v, rfl, _⟩ := h
    rfl
  · obtain ⟨a, v, rfl, ha, k⟩ := h
    refine ⟨_, (pss_cons (ps_expr (pe_ginit rd gi rfl hg (pa_cons (pv 0) (pa_cons pe_str pa_nil))))
      (pss_one (ps_ost (pv 0) (pv 1)))), ?_⟩
    refine ⟨.ref a, rfl, a, C, _, rfl, (by show 1 ≤ 1000; decide), oc, ha, ?_⟩
    exact ⟨v, rfl, .ref a, rfl, a, C, rfl, oc, no, .inl ⟨ha, fun dx hdx hne => k dx hdx hne⟩⟩
abbrev s_Endless_init : Stmt := inClass (topS 17) 0
abbrev N_Endless_init : List Str := ["self", "kind"]
theorem sc_Endless_init : FnScope N_Endless_init ["self", "kind"] (defScope s_Endless_init) := ⟨rfl, rfl, rfl, by decide +kernel, rfl, by decide +kernel, by decide +kernel⟩
theorem ok_Endless {fI G C : Addr} {mc : Value} (F : Fun K "__init__" "Endless.__init__" s_Endless_init fI fd) (hg : mg "GraftError" = some (.ref G)) (rd : ClX.CRead K G mc) (gi : PySem.W.findCls K (.ref G) mc "__init__" = some (.val (.builtin "ValueError.__init__"))) (oc : OexC K C) (no : PySem.W.findIn K (.ref C) "kind" = some none) :
    FnOk P w K mg base CX0 1 fI fd ["self", "kind"] (spInit C "kind") := by
  refine F.ok sc_Endless_init (fun vs H Q E h => ?_) (fun cdv A outer s H vs Q E hr h => ?_)
  · obtain ⟨a, v, rfl, _⟩ := h
    rfl
  · obtain ⟨a, v, rfl, ha, k⟩ := h
    refine ⟨_, (pss_cons (ps_expr (pe_ginit rd gi rfl hg (pa_cons (pv 0) (pa_cons pe_str pa_nil))))
      (pss_one (ps_ost (pv 0) (pv 1)))), ?_⟩
    refine ⟨.ref a, rfl, a, C, _, rfl, (by show 1 ≤ 1000; decide), oc, ha, ?_⟩
    exact ⟨v, rfl, .ref a, rfl, a, C, rfl, oc, no, .inl ⟨ha, fun dx hdx hne => k dx hdx hne⟩⟩
theorem one_arg {B : Hp} {vs : List V} {d : PyData} (h : DdAll K B vs [d]) : ∃ v, vs = [v] ∧ Dd K B v d := arg1 h
/-- _law_box(script, k): a new box, at a place where none was -/
def spBoxN (K : PySem.W.Frag) : Sp := fun vs H Q _ => ∃ (a : Addr) (k : Int) (ns : List Int) (B : Hp), vs = [.ref a, .int k] ∧ Ex B H ∧ SqL K B a (ns.map V.int) ∧ ns.length ≤ 63 ∧ 0 ≤ k ∧ k ≤ 1000 ∧
  ∀ p B' H', H p = none → Step (fun _ => False) B H B' H' → Ok (Fm.box p) B' H' → Q (.ref p) H'
abbrev s_law_box : Stmt := topS 106
abbrev N_law_box : List Str := ["script", "k", "cell", "great"]
theorem sc_law_box : FnScope N_law_box ["script", "k"] (defScope s_law_box) := ⟨rfl, rfl, rfl, by decide +kernel, rfl, by decide +kernel, by decide +kernel⟩
theorem ok_box (F : Fun K "_law_box" "_law_box" s_law_box f fd) (T : TB mg) : FnOk P w K mg base CX0 1 f fd ["script", "k"] (spBoxN K) := by
  refine F.ok sc_law_box (fun vs H Q E h => ?_) (fun cdv A outer s H vs Q E hr h => ?_)
  · obtain ⟨a, k, ns, B, rfl, _⟩ := h
    rfl
  · obtain ⟨a, k, ns, B, rfl, e, hS, hl, k0, k1, q⟩ := h
    refine ⟨_, (pss_cons (ps_set (i := 2) sc_law_box.nd rfl (Or.inl rfl) (pe_op (op_addK K) (pe_op op_mul pe_int (pv 1)) pe_int))
      (Evl.pss_cut (ps_if (pt_cmpR op_lt (pv 1) (pe_callB (call_lenK K) (by rfl) T.m_len bt_len (pa_cons (pv 0) pa_nil)) (nomark _)) (pss_one (ps_set (i := 2) sc_law_box.nd rfl (Or.inl rfl) (pe_callB call_abs (by rfl) T.m_abs bt_abs (pa_cons (pe_ix (ix_seqK K) (pv 0) (pv 1) (fun _ _ => rfl)) pa_nil)))) (pss_one (ps_if (pt_cmpR op_gt (pe_callB (call_lenK K) (by rfl) T.m_len bt_len (pa_cons (pv 0) pa_nil)) pe_int (nomark _)) (pss_one (ps_set (i := 2) sc_law_box.nd rfl (Or.inl rfl) (pe_op (op_addK K) (pe_op op_mul (pe_op op_mod (pe_callTy call_int1 (by rfl) T.m_int bt_int (pa_cons (pe_callB call_abs (by rfl) T.m_abs bt_abs (pa_cons (pe_ix (ix_seqK K) (pv 0) (pe_op op_mod (pe_callTy call_int1 (by rfl) T.m_int bt_int (pa_cons (pv 1) pa_nil)) (pe_callB (call_lenK K) (by rfl) T.m_len bt_len (pa_cons (pv 0) pa_nil))) (fun _ _ => rfl)) pa_nil)) pa_nil)) pe_int) pe_int) (pe_op op_mul pe_int (pv 1))))) pss_nil)))
      (pss_cons (ps_set (i := 3) sc_law_box.nd rfl (Or.inl rfl) (pe_ix (ix_seqK K) (pe_lst (pa_cons pe_int (pa_cons (pv 2) pa_nil))) (pe_callTy call_int1 (by rfl) T.m_int bt_int (pa_cons (pe_cmpR op_ge (pv 2) (pe_op op_pow pe_int pe_int) (nomark _)) pa_nil)) (fun _ _ => rfl)))
      (pss_one (ps_ret (pe_lst (pa_cons (pv 3) (pa_cons (pe_op (op_addK K) (pe_op op_mod (pe_callTy call_int1 (by rfl) T.m_int bt_int (pa_cons (pe_op (op_addK K) (pe_op op_mul (pe_op op_mod (pe_callTy call_int1 (by rfl) T.m_int bt_int (pa_cons (pv 2) pa_nil)) pe_int) pe_int) (pe_op op_mul pe_int (pv 1))) pa_nil)) pe_int) pe_int) pa_nil)))))))), ?_⟩
    have a0 : At Fm.pure B H B H := At.start (Ok.any e)
    have lenS : ∀ (σ : L2.St) B1, σ[0]? = some (some (V.ref a)) → Ex B B1 → ED Fm.pure K (tCB (fun xs H Q => ∃ x n, xs = [x] ∧ LenV K x H n ∧ Q (.int (n : Nat)) H) (tCons (tVar 0) tNil)) σ B1 (.int (ns.length : Nat)) := by
      intro σ B1 hσ e1 B2 e2 H2 j2 Q q
      exact ⟨.ref a, hσ, .ref a, ns.length, rfl, .inl ⟨_, ex_l j2.e (ex_l (e1.trans e2) hS), by rw [List.length_map]⟩, q _ B2 H2 (Step.refl j2.e) j2 (.int _)⟩
    have ixS : ∀ (σ : L2.St) B1 (i : Int) (ti : TE), σ[0]? = some (some (V.ref a)) → Ex B B1 → ED Fm.pure K ti σ B1 (.int i) → 0 ≤ i → i < (ns.length : Nat) → EV Fm.pure (tOp (rIx K) (tVar 0) ti) σ B1 (fun v _ => ∃ n : Int, v = .int n) := by
      intro σ B1 i ti hσ e1 hi h0 h1 B2 e2 H2 j2 Q q
      refine ⟨.ref a, hσ, hi B2 e2 H2 j2 _ fun v B3 H3 s3 j3 g => ?_⟩
      obtain rfl := dd_int g
      have hlt : i.toNat < ns.length := by omega
      have hx : (ns.map V.int)[i.toNat]? = some (V.int ns[i.toNat]) := by rw [List.getElem?_map, List.getElem?_eq_getElem hlt]; rfl
      refine .inl ⟨a, _, i, _, rfl, rfl, ex_l j3.e (ex_l ((e1.trans e2).trans s3.bb) hS), at_of (by omega) hx, q _ B3 H3 s3 j3 ⟨_, rfl⟩⟩
    have absE : ∀ (σ : L2.St) B1 (te : TE), EV Fm.pure te σ B1 (fun v _ => ∃ n : Int, v = .int n) → EV Fm.pure (tCB (fun xs H Q => ∃ i, xs = [.int i] ∧ Q (.int (if i < 0 then -i else i)) H) (tCons te tNil)) σ B1 (fun v _ => ∃ n : Int, v = .int n) := by
      intro σ B1 te h B2 e2 H2 j2 Q q
      exact h B2 e2 H2 j2 _ fun v B3 H3 s3 j3 ⟨n, hn⟩ => ⟨n, by rw [hn], q _ B3 H3 s3 j3 ⟨_, rfl⟩⟩
    have intE : ∀ (σ : L2.St) B1 (te : TE), EV Fm.pure te σ B1 (fun v _ => ∃ n : Int, v = .int n) → EV Fm.pure (tCB (fun xs H Q => (∃ i, xs = [.int i] ∧ Q (.int i) H) ∨ ∃ k, xs = [.bl k] ∧ Q (.int (if k then 1 else 0)) H) (tCons te tNil)) σ B1 (fun v _ => ∃ n : Int, v = .int n) := by
      intro σ B1 te h B2 e2 H2 j2 Q q
      exact h B2 e2 H2 j2 _ fun v B3 H3 s3 j3 ⟨n, hn⟩ => .inl ⟨n, by rw [hn], q _ B3 H3 s3 j3 ⟨_, rfl⟩⟩
    have upI : Upc (fun v _ => ∃ n : Int, v = V.int n) := fun _ _ _ _ h => h
    refine qv_asg a0 (ed_op (ed_op ed_int (ed_var rfl (.int k)) (rd_mul (.inl ⟨by decide, by decide⟩))) ed_int rd_add) fun v B1 H1 e1 a1 hv => ?_
    obtain rfl := dd_int hv
    refine ⟨fun σ' H' => ∃ c : Int, ∃ B', σ' = [some (.ref a), some (.int k), some (.int c), none] ∧ Ex B B' ∧ At Fm.pure B H B' H', ?_, ?_⟩
    · refine sv_if a1 (et_cmp (ed_op (ed_var rfl (.int k)) (lenS _ B1 rfl e1) rd_lt)) (fun hk B2 H2 e2 a2 => ?_) (fun hk B2 H2 e2 a2 => ?_)
      · have hk' : k < (ns.length : Nat) := of_decide_eq_true hk
        refine sv_asg a2 (absE _ B2 _ (ixS _ B2 k _ rfl (e1.trans e2) (ed_var rfl (.int k)) k0 hk')) fun v B3 H3 e3 a3 hv => ?_
        obtain ⟨c, rfl⟩ := hv
        exact ⟨c, B3, rfl, (e1.trans e2).trans e3, a3⟩
      · refine sv_if a2 (et_cmp (ed_op (lenS _ B2 rfl (e1.trans e2)) ed_int rd_gt)) (fun hz B3 H3 e3 a3 => ?_) (fun hz B3 H3 e3 a3 => ?_)
        · have hz' : (0 : Int) < (ns.length : Nat) := of_decide_eq_true hz
          have eb := (e1.trans e2).trans e3
          have ei : ED Fm.pure K (tOp (rI (fun _ j => 0 < j) fun i j => .int (i % j)) (tCB (fun xs H Q => (∃ i, xs = [.int i] ∧ Q (.int i) H) ∨ ∃ k, xs = [.bl k] ∧ Q (.int (if k then 1 else 0)) H) (tCons (tVar 1) tNil)) (tCB (fun xs H Q => ∃ x n, xs = [x] ∧ LenV K x H n ∧ Q (.int (n : Nat)) H) (tCons (tVar 0) tNil))) [some (.ref a), some (.int k), some (.int (7919 * k + 101)), none] B3 (.int (k % (ns.length : Nat))) :=
            ed_op (ev_cb (eds_cons (ed_var rfl (.int k)) eds_nil) rc_int1) (lenS _ B3 rfl eb) (rd_mod hz')
          have e5 := intE _ B3 _ (absE _ B3 _ (ixS _ B3 _ _ rfl eb ei (Int.emod_nonneg k (by omega)) (Int.emod_lt_of_pos k hz')))
          refine sv_asg (P := fun v _ => ∃ n : Int, v = .int n) a3 (ev_op (ev_op (P' := DD K (.int 31)) (Z := fun v _ => ∃ n : Int, v = .int n) (ev_op (P' := DD K (.int 1000000007)) (Z := fun v _ => ∃ n : Int, v = .int n) e5 ed_int upI ?_) ed_int upI ?_) (P' := DD K (.int (7919 * k))) (ed_op ed_int (ed_var rfl (.int k)) (rd_mul (.inl ⟨by decide, by decide⟩))) upI ?_) fun v B4 H4 e4 a4 hv => ?_
          · intro B6 _ H6 u v j6 ⟨n, hu⟩ hv Q q
            exact ⟨n, 1000000007, hu, dd_int hv, (show (0 : Int) < 1000000007 by decide), q _ B6 H6 (Step.refl j6.e) j6 ⟨_, rfl⟩⟩
          · intro B6 _ H6 u v j6 ⟨n, hu⟩ hv Q q
            exact ⟨n, 31, hu, dd_int hv, .inr ⟨by decide, by decide⟩, q _ B6 H6 (Step.refl j6.e) j6 ⟨_, rfl⟩⟩
          · intro B6 _ H6 u v j6 ⟨n, hu⟩ hv Q q
            exact .inl ⟨n, _, hu, dd_int hv, q _ B6 H6 (Step.refl j6.e) j6 ⟨_, rfl⟩⟩
          obtain ⟨c, rfl⟩ := hv
          exact ⟨c, B4, rfl, eb.trans e4, a4⟩
        · exact ⟨_, B3, rfl, (e1.trans e2).trans e3, a3⟩
    · rintro σ' H' ⟨c, B4, rfl, e4, a4⟩
      refine qv_asg (P := fun v _ => ∃ n : Int, v = .int n) a4 (ev_op (P := DD K (.list [.int 0, .int c])) (P' := DD K (.int (if decide ((10 : Int) ^ (18 : Int).toNat ≤ c) = true then 1 else 0))) (ed_lst (eds_cons ed_int (eds_cons (ed_var rfl (.int c)) eds_nil))) (ev_cb (eds_cons (ed_op (ed_var rfl (.int c)) (ed_op ed_int ed_int (rd_pow ⟨by decide, by decide, by decide⟩)) rd_ge) eds_nil) rc_intB) upc_dd ?_) fun v B5 H5 e5 a5 hv => ?_
      · intro B6 _ H6 u v j6 hu hv Q q
        obtain rfl := dd_int hv
        refine rd_ixL (F := Fm.pure) (K := K) (B := B6) (d := .int (if decide ((10 : Int) ^ (18 : Int).toNat ≤ c) = true then c else 0)) ?_ B6 (Ex.refl B6) H6 u _ j6 hu (.int _) Q fun w B7 H7 s7 k7 g => q w B7 H7 s7 k7 ⟨_, dd_int g⟩
        by_cases hc : decide ((10 : Int) ^ (18 : Int).toNat ≤ c) = true
        · rw [if_pos hc, if_pos hc]
          rfl
        · rw [if_neg hc, if_neg hc]
          rfl
      obtain ⟨g, rfl⟩ := hv
      refine sv_retL (K := K) (ds := [.int g, .int (((c % 1000000007 * 48271 + 613 * k) % 2147483647) + 1)]) a5 (eds_cons (ed_var rfl (.int g)) (eds_cons (ed_op (ed_op (ev_cb (eds_cons (ed_op (ed_op (ed_op (ev_cb (eds_cons (ed_var rfl (.int c)) eds_nil) rc_int1) ed_int (rd_mod (by decide))) ed_int (rd_mul (.inr ⟨by decide, by decide⟩))) (ed_op ed_int (ed_var rfl (.int k)) (rd_mul (.inl ⟨by decide, by decide⟩))) rd_add) eds_nil) rc_int1) ed_int (rd_mod (by decide))) ed_int rd_add) eds_nil)) fun vs B6 H6 s6 j6 g6 => ⟨?_, fun p hp => ?_⟩
      · rw [DdAll.len g6]
        show 2 ≤ sizeLine
        decide
      · cases g6 with
        | cons g1 t =>
          cases t with
          | cons g2 t =>
            cases t
            obtain rfl := dd_int g1
            obtain rfl := dd_int g2
            have a6 := a5.next s6 j6
            have hpB : B6 p = none := fresh_back j6.e hp
            have s7 : Step (fun _ => False) B6 H6 B6 (upd H6 p (.lst [.int g, .int (((c % 1000000007 * 48271 + 613 * k) % 2147483647) + 1)])) :=
              ⟨Ex.refl B6, fun x o h => by rw [upd_ne (ne_of_none h hpB)]; exact j6.e x o h, fun x o _ h => by rw [upd_ne (ne_of_none h hp)]; exact h, fun x h _ => h, fun x n => by
                have hx : x ≠ p := fun z => n (z ▸ hp)
                rw [upd_ne hx]
                exact n, fun x n => n.upd fun z => n.ne (z ▸ hp)⟩
            exact q p B6 _ (fresh_back a6.st.ex hp) (a6.st.trans s7) ⟨s7.bh, ⟨g, _, upd_same⟩, fun x m => by
              have m' : x = p := m
              rw [m']
              exact hpB⟩
abbrev s_law_take : Stmt := topS 107
abbrev N_law_take : List Str := ["box", "many", "got"]
theorem sc_law_take : FnScope N_law_take ["box", "many"] (defScope s_law_take) := ⟨rfl, rfl, rfl, by decide +kernel, rfl, by decide +kernel, by decide +kernel⟩
theorem ok_take (F : Fun K "_law_take" "_law_take" s_law_take f fd) (T : TB mg) : FnOk P w K mg base CX0 1 f fd ["box", "many"] (spTake K) := by
  refine F.ok sc_law_take (fun vs H Q E h => ?_) (fun cdv A outer s H vs Q E hr h => ?_)
  · obtain ⟨p, us, B, ds, rfl, ok, hu, ⟨m, rfl, hm⟩, k⟩ := h
    cases hu with
    | cons h1 t =>
      cases t
      rfl
  · obtain ⟨p, us, B, ds, rfl, ok, hu, ⟨m, rfl, h0, h1⟩, k⟩ := h
    cases hu with
    | cons hm t =>
      cases t
      obtain rfl := dd_int hm
      obtain ⟨g, s, hp⟩ := ok.j
      refine ⟨_, (pss_cons (ps_if (pt_cmpR op_gt (pe_ix (ix_seqK K) (pv 0) pe_int (fun _ _ => rfl)) pe_int (nomark _)) (pss_cons (ps_set (i := 2) sc_law_take.nd rfl (Or.inl rfl) (pe_op op_mod (pe_callTy call_int1 (by rfl) T.m_int bt_int (pa_cons (pe_ix (ix_seqK K) (pv 0) pe_int (fun _ _ => rfl)) pa_nil)) (pv 1)))
      (pss_cons (ps_asg (pe_op op_fdiv (pe_ix (ix_seqK K) (pv 0) pe_int (fun _ _ => rfl)) (pv 1)) (pg_sub (pv 0) pe_int set_list))
      (pss_one (ps_ret (pv 2))))) pss_nil)
      (pss_cons (ps_asg (pe_op op_mod (pe_callTy call_int1 (by rfl) T.m_int bt_int (pa_cons (pe_op (op_addK K) (pe_op op_mul (pe_ix (ix_seqK K) (pv 0) pe_int (fun _ _ => rfl)) pe_int) pe_int) pa_nil)) pe_int) (pg_sub (pv 0) pe_int set_list))
      (pss_one (ps_ret (pe_op op_mod (pe_callTy call_int1 (by rfl) T.m_int bt_int (pa_cons (pe_op op_fdiv (pe_ix (ix_seqK K) (pv 0) pe_int (fun _ _ => rfl)) pe_int) pa_nil)) (pv 1)))))), ?_⟩
      have a : At Fm.pure H H H H := At.start (Ok.any (Ex.refl H))
      have hb : Dd K H (.ref p) (.list [.int g, .int s]) := .lst hp (by show 2 ≤ sizeLine; decide) (.cons (.int g) (.cons (.int s) .nil))
      have fin : ∀ (g' s' got : Int) B1 H1, At Fm.pure H H B1 H1 → 0 ≤ got → got < m → Q (.int got) (upd H1 p (.lst [.int g', .int s'])) := by
        intro g' s' got B1 H1 a1 q0 q1
        have eH : Ex H H1 := a1.st.ex
        have st : Step (fun x => x = p) B H B (upd H1 p (.lst [.int g', .int s'])) := ⟨Ex.refl B, fun x o h => by
            have hx : x ≠ p := fun z => by
              rw [z, ok.av p rfl] at h
              cases h
            rw [upd_ne hx]
            exact eH x o (ok.e x o h), fun x o n h => by
            rw [upd_ne n]
            exact eH x o h, fun x h _ => h, fun x n => by
            by_cases hx : x = p
            · rw [hx, upd_same]
              exact fun z => nomatch z
            · rw [upd_ne hx]
              exact a1.st.live x n, fun x n => by
            by_cases hx : x = p
            · rw [hx]
              exact liv_set trivial
            · exact (a1.st.liv x n).upd hx⟩
        exact k _ B _ st ⟨st.bh, ⟨g', s', upd_same⟩, ok.av⟩ ⟨got, m, rfl, rfl, q0, q1⟩
      have hm0 : (m : Int) ≠ 0 := by omega
      refine qv_when a (et_cmp (ed_op (ed_op (ed_var rfl hb) ed_int (rd_ixL (d := .int g) rfl)) ed_int rd_gt)) (fun _ B1 H1 e1 a1 => ?_) (fun _ B1 H1 e1 a1 => ?_)
      · refine qv_asg a1 (ed_op (ev_cb (eds_cons (ed_op (ed_var rfl (hb.up e1)) ed_int (rd_ixL (d := .int g) rfl)) eds_nil) rc_int1) (ed_var rfl (.int m)) (rd_mod h0)) fun v B2 H2 e2 a2 hv => ?_
        obtain rfl := dd_int hv
        have ev : ED Fm.pure K (tOp (rI CDiv fun i j => .int (i / j)) (tOp (rIx K) (tVar 0) (tC (.int 0))) (tVar 1)) [some (.ref p), some (.int m), some (.int (g % m))] B2 (.int (g / m)) :=
          ed_op (ed_op (ed_var rfl (hb.up (e1.trans e2))) ed_int (rd_ixL (d := .int g) rfl)) (ed_var rfl (.int m)) (rd_fdiv ⟨h0, h1⟩)
        refine ev B2 (Ex.refl B2) H2 a2.j _ fun v B3 H3 s3 j3 hv => ?_
        obtain rfl := dd_int hv
        have a3 := a2.next s3 j3
        have hp3 : H3 p = some (.lst [.int g, .int s]) := a3.st.ex p _ hp
        exact ⟨.ref p, rfl, p, _, 0, 0, rfl, rfl, hp3, rfl, _, rfl, fin _ _ _ B3 H3 a3 (Int.emod_nonneg g hm0) (Int.emod_lt_of_pos g h0)⟩
      · have ev : ED Fm.pure K (tOp (rI (fun _ j => 0 < j) fun i j => .int (i % j)) (tCB (fun xs H Q => (∃ i, xs = [.int i] ∧ Q (.int i) H) ∨ ∃ k, xs = [.bl k] ∧ Q (.int (if k then 1 else 0)) H) (tCons (tOp (rAddA K) (tOp (rI CMul fun i j => .int (i * j)) (tOp (rIx K) (tVar 0) (tC (.int 1))) (tC (.int 39373))) (tC (.int 69621))) tNil)) (tC (.int 2147483647))) [some (.ref p), some (.int m), none] B1 (.int ((s * 39373 + 69621) % 2147483647)) :=
          ed_op (ev_cb (eds_cons (ed_op (ed_op (ed_op (ed_var rfl (hb.up e1)) ed_int (rd_ixL (d := .int s) rfl)) ed_int (rd_mul (.inr ⟨by decide, by decide⟩))) ed_int rd_add) eds_nil) rc_int1) ed_int (rd_mod (by decide))
        refine ev B1 (Ex.refl B1) H1 a1.j _ fun v B2 H2 s2 j2 hv => ?_
        obtain rfl := dd_int hv
        have a2 := a1.next s2 j2
        have hp2 : H2 p = some (.lst [.int g, .int s]) := a2.st.ex p _ hp
        refine ⟨.ref p, rfl, p, _, 1, 1, rfl, rfl, hp2, rfl, ?_⟩
        have hup : upd H2 p (.lst [.int g, .int ((s * 39373 + 69621) % 2147483647)]) p = some (.lst [.int g, .int ((s * 39373 + 69621) % 2147483647)]) := upd_same
        refine ⟨.ref p, rfl, .inl ⟨p, _, 1, .int ((s * 39373 + 69621) % 2147483647), rfl, rfl, sq_of hup, rfl, ?_⟩⟩
        refine ⟨_, 8191, rfl, rfl, ⟨by decide, by decide⟩, .inl ⟨_, rfl, _, rfl, _, m, rfl, rfl, h0, ?_⟩⟩
        exact fin _ _ _ B2 H2 a2 (Int.emod_nonneg _ hm0) (Int.emod_lt_of_pos _ h0)
abbrev s_law_pick : Stmt := topS 108
abbrev N_law_pick : List Str := ["box", "some"]
theorem sc_law_pick : FnScope N_law_pick ["box", "some"] (defScope s_law_pick) := ⟨rfl, rfl, rfl, by decide +kernel, rfl, by decide +kernel, by decide +kernel⟩
theorem ok_pick (F : Fun K "_law_pick" "_law_pick" s_law_pick f fd) (T : TB mg) (C_law_take : Callee P w K mg base "_law_take" 1 ["box", "many"] (spTake K)) : FnOk P w K mg base CX0 2 f fd ["box", "some"] (spPick K) := by
  refine F.ok sc_law_pick (fun vs H Q E h => ?_) (fun cdv A outer s H vs Q E hr h => ?_)
  · obtain ⟨p, us, B, ds, rfl, ok, hu, ⟨d, xs, rfl, _⟩, k⟩ := h
    cases hu with
    | cons h1 t =>
      cases t
      rfl
  · obtain ⟨p, us, B, ds, rfl, ok, hu, ⟨d, xs, rfl, hd, hne, hlt⟩, k⟩ := h
    cases hu with
    | cons hm t =>
      cases t
      refine ⟨_, (pss_one (ps_ret (pe_ix (ix_seqK K) (pv 1) (pe_callC C_law_take (hr.mono (by decide)) rfl pass0 (pa_cons (pv 0) (pa_cons (pe_callB (call_lenK K) (by rfl) T.m_len bt_len (pa_cons (pv 1) pa_nil)) pa_nil))) (fun _ _ => rfl)))), ?_⟩
      have a : At (Fm.box p) B H B H := At.start ok
      have hl : hasLen d = true := by rcases hd with rfl | rfl <;> rfl
      have hn : lenD d = (xs.length : Nat) := by rcases hd with rfl | rfl <;> rfl
      have hpos : 0 < xs.length := List.length_pos_iff.mpr hne
      refine sv_ret (P := fun v B => ∃ e, e ∈ xs ∧ Dd K B v e) a (ev_op (ed_var rfl hm) (ev_take (m := lenD d) rfl (ev_cb (eds_cons (ed_var rfl hm) eds_nil) (rc_len hl)) (by rw [hn]; omega) (by rw [hn]; omega)) upc_dd (by rw [hn]; exact rv_pick hd)) fun v B1 H1 e1 a1 ⟨e, he, hv⟩ => ?_
      refine k v B1 H1 a1.st a1.j ⟨d, e, rfl, ?_, hv⟩
      rcases hd with rfl | rfl <;> exact he
abbrev s_is_integer : Stmt := topS 4
abbrev N_is_integer : List Str := ["value"]
theorem sc_is_integer : FnScope N_is_integer ["value"] (defScope s_is_integer) := ⟨rfl, rfl, rfl, by decide +kernel, rfl, by decide +kernel, by decide +kernel⟩
theorem ok_is_integer (F : Fun K "is_integer" "is_integer" s_is_integer f fd) (T : TB mg) : FnOk P w K mg base CX0 1 f fd ["value"] (spInt K) := by
  refine F.ok sc_is_integer (fun vs H Q E h => ?_) (fun cdv A outer s H vs Q E hr h => ?_)
  · obtain ⟨B, ds, e, hd, ⟨d, rfl⟩, q⟩ := h
    obtain ⟨v, rfl, _⟩ := one_arg hd
    rfl
  · obtain ⟨B, ds, e, hd, ⟨d, rfl⟩, q⟩ := h
    obtain ⟨v, rfl, hv⟩ := one_arg hd
    refine ⟨_, (pss_one (ps_ret (pe_and (pe_callB (call_isiK1 K) (by rfl) T.m_isinstance bt_isinstance (pa_cons (pv 0) (pa_cons (pe_bltn (v := .ty "int") (by rfl) T.m_int bt_int rfl) pa_nil))) (pe_one (pe_not (pe_callB (call_isiK1 K) (by rfl) T.m_isinstance bt_isinstance (pa_cons (pv 0) (pa_cons (pe_bltn (v := .ty "bool") (by rfl) T.m_bool bt_bool rfl) pa_nil)))))))), ?_⟩
    have a : At Fm.pure B H B H := At.start (Ok.any e)
    have e2 : (isIntD d && !isBoolD d) = isI d := by cases d <;> rfl
    refine sv_ret (P := DD K (.bool (isI d))) a (ed_is (ed_andV (ed_isi (ed_var rfl hv) (kit_int d)) (fun _ => ed_notV (ed_isi (ed_var rfl hv) (kit_bool d)))) (by rw [e2])) fun v B1 H1 e1 a1 h1 => ?_
    exact q v B1 H1 a1.st h1
abbrev s_is_between : Stmt := topS 5
abbrev N_is_between : List Str := ["value", "low", "high"]
theorem sc_is_between : FnScope N_is_between ["value", "low", "high"] (defScope s_is_between) := ⟨rfl, rfl, rfl, by decide +kernel, rfl, by decide +kernel, by decide +kernel⟩
theorem ok_is_between (F : Fun K "is_between" "is_between" s_is_between f fd) (T : TB mg) (C_is_integer : Callee P w K mg base "is_integer" 1 ["value"] (spInt K)) : FnOk P w K mg base CX0 2 f fd ["value", "low", "high"] (spBetween K) := by
  refine F.ok sc_is_between (fun vs H Q E h => ?_) (fun cdv A outer s H vs Q E hr h => ?_)
  · obtain ⟨B, ds, e, hd, ⟨d, lo, hi, rfl⟩, q⟩ := h
    exact hd.len
  · obtain ⟨B, ds, e, hd, ⟨d, lo, hi, rfl⟩, q⟩ := h
    cases hd with
    | cons hv t =>
      cases t with
      | cons hlo t =>
        cases t with
        | cons hhi t =>
          cases t
          obtain rfl := dd_int hlo
          obtain rfl := dd_int hhi
          refine ⟨_, (pss_one (ps_ret (pe_and (pe_callC C_is_integer (hr.mono (by decide)) rfl pass0 (pa_cons (pv 0) pa_nil)) (pe_one (pe_chain op_le op_le (pv 1) (pv 0) (pv 2)))))), ?_⟩
          have a : At Fm.pure B H B H := At.start (Ok.any e)
          refine sv_ret (P := DD K (fBetween [d, .int lo, .int hi])) a (ed_is (ed_andV (b := isI d) (c := match d with | .int i => decide (lo ≤ i) && decide (i ≤ hi) | _ => false) (ed_F (eds_cons (ed_var rfl hv) eds_nil) ⟨d, rfl⟩ rfl) (fun hi1 => ?_)) ?_) fun v B1 H1 e1 a1 h1 => ?_
          · cases d with
            | int i =>
              obtain rfl := dd_int hv
              exact ed_chain (ed_var rfl (.int lo)) (ed_var rfl (.int i)) rd_le (fun _ => ⟨_, ed_var rfl (.int hi), rd_le⟩)
            | _ => cases hi1
          · cases d <;> rfl
          · exact q v B1 H1 a1.st h1
end
end K50

namespace K50
open PySem PySem.Spec PyProof.Rows L2 Evl Ex Dx
open PySem.PyData (strOk)

section
variable {P : Program} {w : World} {K : PySem.W.Frag} {mg : Str → Option Value} {base : Heap} {f : Addr} {fd : FuncData}

def fWord : List PyData → PyData
  | [d] => .bool (wordD d)
  | _ => .none
def fRule : List PyData → PyData
  | [d, .int n] => .bool (ruleD d n)
  | _ => .none
def fRules : List PyData → PyData
  | [d, .int n] => .bool (rulesD d n)
  | _ => .none
def numsD (d : PyData) (n : Int) : Bool := match d with
  | .tuple ds => ds.all fun e => inB e 0 (n - 1)
  | _ => false
def fNums : List PyData → PyData
  | [d, .int n] => .bool (numsD d n)
  | _ => .none
def preW (ds : List PyData) : Prop := ∃ d, ds = [d] ∧ Sm 60 d
def preR (ds : List PyData) : Prop := ∃ d n, ds = [d, .int n] ∧ Sm 60 d
theorem leL (ds : List PyData) (k : Int) : decide (((ds.length : Nat) : Int) < k) = decide ((ds.length : Int) < k) := rfl
theorem three (d : PyData) : (∃ x y p ps, d = .tuple (x :: y :: p :: ps)) ∨ (isTupD d = false ∧ ∀ n, ruleD d n = false) ∨ (∃ ds, d = .tuple ds ∧ ds.length < 3 ∧ ∀ n, ruleD d n = false) := by
  cases d with
  | tuple ds =>
    rcases ds with _ | ⟨x, _ | ⟨y, _ | ⟨p, ps⟩⟩⟩
    · exact .inr (.inr ⟨_, rfl, by simp, fun _ => rfl⟩)
    · exact .inr (.inr ⟨_, rfl, by simp, fun _ => rfl⟩)
    · exact .inr (.inr ⟨_, rfl, by simp, fun _ => by unfold ruleD; split <;> simp_all⟩)
    · exact .inl ⟨_, _, _, _, rfl⟩
  | _ => exact .inr (.inl ⟨rfl, fun _ => rfl⟩)
theorem at3_0 {x y p : PyData} {ps : List PyData} : atI (x :: y :: p :: ps) 0 = some x := atI_nat (j := 0) rfl
theorem at3_1 {x y p : PyData} {ps : List PyData} : atI (x :: y :: p :: ps) 1 = some y := atI_nat (j := 1) rfl
theorem at3_2 {x y p : PyData} {ps : List PyData} : atI (x :: y :: p :: ps) 2 = some p := atI_nat (j := 2) rfl
theorem isStr_is {d : PyData} (h : isStrD d = true) : ∃ s, d = .str s := by
  cases d with
  | str s => exact ⟨s, rfl⟩
  | _ => cases h
theorem cut2 {x y : PyData} {l : List PyData} : cutL (x :: y :: l) (some 2) none = l := by
  unfold cutL HT.sIx
  simp
theorem cut1 {x : PyData} {l : List PyData} : cutL (x :: l) none (some 1) = [x] := by
  unfold cutL HT.sIx
  simp
theorem lenk (x y p : PyData) (ps : List PyData) (k : Nat) : PyData.eqv (.int (lenD (.tuple (x :: y :: p :: ps)))) (.int ((k : Int) + 2)) = decide ((p :: ps).length = k) := by
  rw [eqv_int]
  show ((((ps.length + 1 + 1 + 1 : Nat)) : Int) == (k : Int) + 2) = decide (ps.length + 1 = k)
  rw [Bool.eq_iff_iff, beq_iff_eq, decide_eq_true_eq]
  omega
theorem pyStr {F : Fm} {σ : L2.St} {B : Hp} {x y z : Str} (hx : x.length ≤ sizeLine := by decide) (hy : y.length ≤ sizeLine := by decide) (hz : z.length ≤ sizeLine := by decide) : ED F K (tLst (tCons (tC (.str x)) (tCons (tC (.str y)) (tCons (tC (.str z)) tNil)))) σ B (.list ([x, y, z].map .str)) := ed_lst (eds_cons (ed_str hx) (eds_cons (ed_str hy) (eds_cons (ed_str hz) eds_nil)))
theorem pyStr2 {F : Fm} {σ : L2.St} {B : Hp} {x y : Str} (hx : x.length ≤ sizeLine := by decide) (hy : y.length ≤ sizeLine := by decide) : ED F K (tLst (tCons (tC (.str x)) (tCons (tC (.str y)) tNil))) σ B (.list ([x, y].map .str)) := ed_lst (eds_cons (ed_str hx) (eds_cons (ed_str hy) eds_nil))
theorem flatS (L : List Str) : (L.map PyData.str).all flatD = true := by
  rw [List.all_map]
  exact List.all_eq_true.mpr fun _ _ => rfl
theorem inSL {F : Fm} {σ : L2.St} {B : Hp} {ta tb : TE} {s : Str} {L : List Str} (h1 : ED F K ta σ B (.str s)) (h2 : ED F K tb σ B (.list (L.map .str))) : ED F K (tOp (rIn K false) ta tb) σ B (.bool (inS s L)) := ed_is (ed_op h1 h2 (rd_isin (.inl rfl) rfl (flatS L))) (by rw [inD_str])
theorem inST {F : Fm} {σ : L2.St} {B : Hp} {ta tb : TE} {s : Str} {L : List Str} (h1 : ED F K ta σ B (.str s)) (h2 : ED F K tb σ B (.tuple (L.map .str))) : ED F K (tOp (rIn K false) ta tb) σ B (.bool (inS s L)) := ed_is (ed_op h1 h2 (rd_isin (.inr rfl) rfl (flatS L))) (by rw [inD_str])

abbrev s_is_word : Stmt := topS 6
abbrev N_is_word : List Str := ["value", "sign"]
theorem sc_is_word : FnScope N_is_word ["value"] (defScope s_is_word) := ⟨rfl, rfl, rfl, by decide +kernel, rfl, by decide +kernel, by decide +kernel⟩
theorem ok_is_word (F : Fun K "is_word" "is_word" s_is_word f fd) (T : TC K mg) : FnOk P w K mg base CX0 1 f fd ["value"] (spF K pre1 fWord) := by
  refine F.ok sc_is_word (fun vs H Q E h => ?_) (fun cdv A outer s H vs Q E hr h => ?_)
  · obtain ⟨B, ds, e, hd, ⟨d, rfl⟩, q⟩ := h
    exact hd.len
  · obtain ⟨B, ds, e, hd, ⟨d, rfl⟩, q⟩ := h
    obtain ⟨v, rfl, hv⟩ := arg1 hd
    refine ⟨_, (pss_cons (ps_if (PW.pt (pw_or (pt_not (pt_val (pe_callB (call_isiK1 K) (by rfl) T.m_isinstance bt_isinstance (pa_cons (pv 0) (pa_cons (pe_bltn (v := .ty "str") (by rfl) T.m_str bt_str rfl) pa_nil))))) (pw_or1 (pt_not (pt_chain op_le op_le pe_int (pe_callB (call_lenK K) (by rfl) T.m_len bt_len (pa_cons (pv 0) pa_nil)) (pe_gint rfl T.c_MOST_LETTERS)))))) (pss_one (ps_ret pe_bl)) pss_nil)
      (pss_one (ps_ret (pe_callB (cr_allK K) (by rfl) T.m_all bt_all (pa_cons (pe_lc (own := [("sign", 1)]) rfl sc_is_word.nd (pi_str (pv 0)) (blkOk_by (own := [("sign", 1)]) (N := N_is_word) (sc := defScope s_is_word) (by decide +kernel)) (fun _ _ _ _ _ => pg_name (i := 1) sc_is_word.nd rfl (Or.inl rfl)) (fun _ _ _ _ _ => pts_nil) (fun _ _ _ _ _ => (pe_chain op_le_str op_le_str pe_str (pv 1) pe_str))) pa_nil))))), ?_⟩
    have a : At Fm.pure B H B H := At.start (Ok.any e)
    have fin : ∀ b B1 H1, At Fm.pure B H B1 H1 → b = wordD d → Q (.bl b) H1 := fun b B1 H1 a1 eb => by
      refine q _ B1 H1 a1.st ?_
      show Dd K B1 (.bl b) (.bool (wordD d))
      rw [eb]
      exact .bl _
    by_cases hs : isStrD d = true
    · obtain ⟨x, rfl⟩ := isStr_is hs
      refine qv_when (b := !(decide ((1 : Int) ≤ (x.length : Nat)) && decide (((x.length : Nat) : Int) ≤ 3))) a (et_is (et_or (b := false) (et_not (et_val (ed_isi (ed_var rfl hv) (kit_str _)))) fun _ => et_not (et_cmp (ed_chain (ed_int) (ev_cb (eds_cons (ed_var rfl hv) eds_nil) (rc_len rfl)) rd_le fun _ => ⟨_, ed_int, rd_le⟩))) (by rfl)) (fun hb B1 H1 e1 a1 => ?_) (fun hb B1 H1 e1 a1 => ?_)
      · refine sv_ret (P := DD K (.bool false)) a1 ed_bl fun v1 B2 H2 e2 a2 h2 => ?_
        obtain rfl := dd_bl h2
        refine fin _ B2 H2 a2 ?_
        rw [wordD_str]
        rw [Bool.not_eq_true'] at hb
        rw [hb]
        rfl
      · refine sv_ret (P := DD K (.bool (wordD (.str x)))) a1 (ed_is (ev_cb (eds_cons (ed_is (ed_lcS (fun _ => true) (fun c => .bool (!loS c && !hiS c)) (ed_var rfl (hv.up e1)) (fun _ => rfl) (fun c B2 _ _ => et_yes) (fun c B2 _ _ e2 => ed_chain (ed_str) (ed_var rfl (.str _ (by show 1 ≤ sizeLine; decide))) rd_leS fun _ => ⟨_, ed_str, rd_leS⟩)) (by rw [mapb])) eds_nil) rc_all) ?_) fun v1 B2 H2 e2 a2 h2 => ?_
        · rw [wordD_str]
          rw [Bool.not_eq_false'] at hb
          rw [hb, all_id]
          rfl
        · obtain rfl := dd_bl h2
          exact fin _ B2 H2 a2 rfl
    · have hs' : isStrD d = false := by simpa using hs
      refine qv_when (b := true) a (et_is (et_or (b := !isStrD d) (c := true) (et_not (et_val (ed_isi (ed_var rfl hv) (kit_str _)))) fun h => by rw [hs'] at h; cases h) (by rw [hs']; rfl)) (fun hb B1 H1 e1 a1 => ?_) (fun h => nomatch h)
      refine sv_ret (P := DD K (.bool false)) a1 ed_bl fun v1 B2 H2 e2 a2 h2 => ?_
      obtain rfl := dd_bl h2
      refine fin _ B2 H2 a2 ?_
      cases d <;> first | rfl | cases hs' 
abbrev s_is_rule : Stmt := topS 33
abbrev N_is_rule : List Str := ["value", "kinds", "part"]
theorem sc_is_rule : FnScope N_is_rule ["value", "kinds"] (defScope s_is_rule) := ⟨rfl, rfl, rfl, by decide +kernel, rfl, by decide +kernel, by decide +kernel⟩
theorem ok_is_rule (F : Fun K "is_rule" "is_rule" s_is_rule f fd) (T : TC K mg) (C_is_between : Callee P w K mg base "is_between" 2 ["value", "low", "high"] (spBetween K)) (C_is_word : Callee P w K mg base "is_word" 1 ["value"] (spF K pre1 fWord)) : FnOk P w K mg base CX0 3 f fd ["value", "kinds"] (spF K (fun ds => ∃ d n, ds = [d, .int n]) fRule) := by
  refine F.ok sc_is_rule (fun vs H Q E h => ?_) (fun cdv A outer s H vs Q E hr h => ?_)
  · obtain ⟨B, ds, e, hd, ⟨d, n, rfl⟩, q⟩ := h
    exact hd.len
  · obtain ⟨B, ds, e, hd, ⟨d, n, rfl⟩, q⟩ := h
    obtain ⟨v, v2, rfl, hv, hn⟩ := arg2 hd
    obtain rfl := dd_int hn
    have hu64 : (A.deeper (envOfC "is_rule" (defScope s_is_rule) s.heap.objs.size f cdv)).units + 64 < cLine := hr.units
    obtain ⟨WW, gW, hW⟩ := T.w_WORD.ex
    obtain ⟨WO, gO, hO⟩ := T.w_ONE.ex
    obtain ⟨WT, gT, hT⟩ := T.w_TWO.ex
    refine ⟨_, (pss_cons (ps_if (PW.pt (pw_or (pt_not (pt_val (pe_callB (call_isiK1 K) (by rfl) T.m_isinstance bt_isinstance (pa_cons (pv 0) (pa_cons (pe_bltn (v := .ty "tuple") (by rfl) T.m_tuple bt_tuple rfl) pa_nil))))) (pw_or (pt_cmpR op_lt (pe_callB (call_lenK K) (by rfl) T.m_len bt_len (pa_cons (pv 0) pa_nil)) pe_int (nomark _)) (pw_or1 (pt_not (pt_val (pe_callB (call_isiK1 K) (by rfl) T.m_isinstance bt_isinstance (pa_cons (pe_ix (ix_seqK K) (pv 0) pe_int (fun _ _ => rfl)) (pa_cons (pe_bltn (v := .ty "str") (by rfl) T.m_str bt_str rfl) pa_nil))))))))) (pss_one (ps_ret pe_bl)) pss_nil)
      (pss_cons (ps_if (pt_not (pt_val (pe_callC C_is_between (hr.mono (by decide)) rfl pass0 (pa_cons (pe_ix (ix_seqK K) (pv 0) pe_int (fun _ _ => rfl)) (pa_cons pe_int (pa_cons (pe_op op_sub (pv 1) pe_int) pa_nil)))))) (pss_one (ps_ret pe_bl)) pss_nil)
      (pss_cons (ps_if (pt_cmpR (op_inK K) (pe_ix (ix_seqK K) (pv 0) pe_int (fun _ _ => rfl)) (pe_glob (v := .ref WW) rfl gW rfl) (by rfl)) (pss_one (ps_ret (pe_and (pe_cmpR (op_eqDK K hu64) (pe_callB (call_lenK K) (by rfl) T.m_len bt_len (pa_cons (pv 0) pa_nil)) pe_int (nomark _)) (pe_one (pe_callC C_is_word (hr.mono (by decide)) rfl pass0 (pa_cons (pe_ix (ix_seqK K) (pv 0) pe_int (fun _ _ => rfl)) pa_nil)))))) pss_nil)
      (pss_cons (ps_if (pt_cmpR (op_inK K) (pe_ix (ix_seqK K) (pv 0) pe_int (fun _ _ => rfl)) (pe_glob (v := .ref WO) rfl gO rfl) (by rfl)) (pss_one (ps_ret (pe_and (pe_cmpR (op_eqDK K hu64) (pe_callB (call_lenK K) (by rfl) T.m_len bt_len (pa_cons (pv 0) pa_nil)) pe_int (nomark _)) (pe_one (pe_callC C_is_between (hr.mono (by decide)) rfl pass0 (pa_cons (pe_ix (ix_seqK K) (pv 0) pe_int (fun _ _ => rfl)) (pa_cons pe_int (pa_cons (pe_op op_sub (pv 1) pe_int) pa_nil)))))))) pss_nil)
      (pss_cons (ps_if (pt_cmpR (op_inK K) (pe_ix (ix_seqK K) (pv 0) pe_int (fun _ _ => rfl)) (pe_glob (v := .ref WT) rfl gT rfl) (by rfl)) (pss_one (ps_ret (pe_and (pe_cmpR (op_eqDK K hu64) (pe_callB (call_lenK K) (by rfl) T.m_len bt_len (pa_cons (pv 0) pa_nil)) pe_int (nomark _)) (pe_one (pe_callB (cr_allK K) (by rfl) T.m_all bt_all (pa_cons (pe_lc (own := [("part", 2)]) rfl sc_is_rule.nd (pi_seqK K (pe_slice (sl_anyK K) (pv 0) (po_some pe_int) po_none)) (blkOk_by (own := [("part", 2)]) (N := N_is_rule) (sc := defScope s_is_rule) (by decide +kernel)) (fun _ _ _ _ _ => pg_name (i := 2) sc_is_rule.nd rfl (Or.inl rfl)) (fun _ _ _ _ _ => pts_nil) (fun _ _ _ _ _ => (pe_callC C_is_between (hr.mono (by decide)) rfl pass0 (pa_cons (pv 2) (pa_cons pe_int (pa_cons (pe_op op_sub (pv 1) pe_int) pa_nil)))))) pa_nil)))))) pss_nil)
      (pss_one (ps_ret pe_bl))))))), ?_⟩
    have a : At Fm.pure B H B H := At.start (Ok.any e)
    have fin : ∀ b B1 H1, At Fm.pure B H B1 H1 → b = ruleD d n → Q (.bl b) H1 := fun b B1 H1 a1 eb => by
      refine q _ B1 H1 a1.st ?_
      show Dd K B1 (.bl b) (.bool (ruleD d n))
      rw [eb]
      exact .bl _
    rcases three d with ⟨x, y, p, ps, rfl⟩ | ⟨h1, h2⟩ | ⟨xs, rfl, h1, h2⟩
    · have i0 : ∀ B1 (σ : L2.St), Ex B B1 → σ[0]? = some (some v) → ED Fm.pure K (tOp (rIx K) (tVar 0) (tC (.int 0))) σ B1 x := fun B1 σ e1 hσ => ed_op (ed_var hσ (hv.up e1)) ed_int (rd_ixT at3_0)
      have i1 : ∀ B1 (σ : L2.St), Ex B B1 → σ[0]? = some (some v) → ED Fm.pure K (tOp (rIx K) (tVar 0) (tC (.int 1))) σ B1 y := fun B1 σ e1 hσ => ed_op (ed_var hσ (hv.up e1)) ed_int (rd_ixT at3_1)
      have i2 : ∀ B1 (σ : L2.St), Ex B B1 → σ[0]? = some (some v) → ED Fm.pure K (tOp (rIx K) (tVar 0) (tC (.int 2))) σ B1 p := fun B1 σ e1 hσ => ed_op (ed_var hσ (hv.up e1)) ed_int (rd_ixT at3_2)
      have ln : ∀ B1 (σ : L2.St), Ex B B1 → σ[0]? = some (some v) → ED Fm.pure K (tCB (rLnK K) (tCons (tVar 0) tNil)) σ B1 (.int (lenD (.tuple (x :: y :: p :: ps)))) := fun B1 σ e1 hσ => ev_cb (eds_cons (ed_var hσ (hv.up e1)) eds_nil) (rc_len rfl)
      have n1 : ∀ B1 (σ : L2.St), σ[1]? = some (some (.int n)) → ED Fm.pure K (tOp (rI0 fun i j => .int (i - j)) (tVar 1) (tC (.int 1))) σ B1 (.int (n - 1)) := fun B1 σ hσ => ed_op (ed_var hσ (.int n)) ed_int rd_sub
      refine qv_when (b := !isStrD y) a (et_is (et_or (b := false) (et_not (et_val (ed_isi (ed_var rfl hv) (kit_tup _)))) fun _ => et_or (b := false) (et_is (et_cmp (ed_op (ln _ _ (Ex.refl B) rfl) ed_int rd_lt)) (decide_eq_false (by show ¬ (((ps.length + 1 + 1 + 1 : Nat) : Int) < 3); omega))) fun _ => et_not (et_val (ed_isi (i1 _ _ (Ex.refl B) rfl) (kit_str y)))) (by rfl)) (fun hb B1 H1 e1 a1 => ?_) (fun hb B1 H1 e1 a1 => ?_)
      · refine sv_ret (P := DD K (.bool false)) a1 ed_bl fun v1 B2 H2 e2 a2 h2 => ?_
        obtain rfl := dd_bl h2
        refine fin _ B2 H2 a2 ?_
        cases y <;> first | rfl | cases hb
      obtain ⟨s, rfl⟩ := isStr_is (by simpa using hb)
      have rl : ruleD (.tuple (x :: .str s :: p :: ps)) n = (inB x 0 (n - 1) && tailD s (p :: ps) n) := rfl
      refine qv_when (b := !inB x 0 (n - 1)) a1 (et_not (et_val (ed_F (eds_cons (i0 _ _ e1 rfl) (eds_cons ed_int (eds_cons (n1 _ _ rfl) eds_nil))) ⟨_, _, _, rfl⟩ rfl))) (fun hb2 B2 H2 e2 a2 => ?_) (fun hb2 B2 H2 e2 a2 => ?_)
      · refine sv_ret (P := DD K (.bool false)) a2 ed_bl fun v1 B3 H3 e3 a3 h3 => ?_
        obtain rfl := dd_bl h3
        refine fin _ B3 H3 a3 ?_
        rw [rl]
        rw [Bool.not_eq_true'] at hb2
        rw [hb2]
        rfl
      have hx : inB x 0 (n - 1) = true := by simpa using hb2
      have rl2 : ruleD (.tuple (x :: .str s :: p :: ps)) n = tailD s (p :: ps) n := by rw [rl, hx]; rfl
      refine qv_when (b := inS s WSH) a2 (et_cmp (inST (i1 _ _ (e1.trans e2) rfl) (ed_v (hW B2)))) (fun hb3 B3 H3 e3 a3 => ?_) (fun hb3 B3 H3 e3 a3 => ?_)
      · refine sv_ret (P := DD K (.bool (ruleD (.tuple (x :: .str s :: p :: ps)) n))) a3 (ed_is (ed_andV (b := decide ((p :: ps).length = 1)) (c := wordD p) (ed_is (ed_op (ln _ _ ((e1.trans e2).trans e3) rfl) ed_int (rd_eqD rfl rfl)) (by rw [← lenk x (.str s) p ps 1]; rfl)) fun _ => ed_F (eds_cons (i2 _ _ ((e1.trans e2).trans e3) rfl) eds_nil) ⟨_, rfl⟩ rfl) ?_) fun v1 B4 H4 e4 a4 h4 => ?_
        · rw [rl2]
          unfold tailD
          rw [if_pos hb3]
          rfl
        · obtain rfl := dd_bl h4
          exact fin _ B4 H4 a4 rfl
      refine qv_when (b := inS s OSH) a3 (et_cmp (inST (i1 _ _ ((e1.trans e2).trans e3) rfl) (ed_v (hO B3)))) (fun hb4 B4 H4 e4 a4 => ?_) (fun hb4 B4 H4 e4 a4 => ?_)
      · refine sv_ret (P := DD K (.bool (ruleD (.tuple (x :: .str s :: p :: ps)) n))) a4 (ed_is (ed_andV (b := decide ((p :: ps).length = 1)) (c := inB p 0 (n - 1)) (ed_is (ed_op (ln _ _ (((e1.trans e2).trans e3).trans e4) rfl) ed_int (rd_eqD rfl rfl)) (by rw [← lenk x (.str s) p ps 1]; rfl)) fun _ => ed_F (eds_cons (i2 _ _ (((e1.trans e2).trans e3).trans e4) rfl) (eds_cons ed_int (eds_cons (n1 _ _ rfl) eds_nil))) ⟨_, _, _, rfl⟩ rfl) ?_) fun v1 B5 H5 e5 a5 h5 => ?_
        · rw [rl2]
          unfold tailD
          rw [hb3, if_neg (by decide), if_pos hb4]
          rfl
        · obtain rfl := dd_bl h5
          exact fin _ B5 H5 a5 rfl
      refine qv_when (b := inS s TSH) a4 (et_cmp (inST (i1 _ _ (((e1.trans e2).trans e3).trans e4) rfl) (ed_v (hT B4)))) (fun hb5 B5 H5 e5 a5 => ?_) (fun hb5 B5 H5 e5 a5 => ?_)
      · have e0 := (((e1.trans e2).trans e3).trans e4).trans e5
        have sl := ed_slT (F := Fm.pure) (K := K) (σ := [some v, some (.int n), none]) (ed_var (i := 0) rfl (hv.up e0)) (eo_some (K := K) (i := 2) ed_int) eo_none
        rw [cut2] at sl
        refine sv_ret (P := DD K (.bool (ruleD (.tuple (x :: .str s :: p :: ps)) n))) a5 (ed_is (ed_andV (b := decide ((p :: ps).length = 2)) (c := (p :: ps).all fun d => inB d 0 (n - 1)) (ed_is (ed_op (ln _ _ e0 rfl) ed_int (rd_eqD rfl rfl)) (by rw [← lenk x (.str s) p ps 2]; rfl)) fun hl => ?_) ?_) fun v1 B6 H6 e6 a6 h6 => ?_
        · have hl' : (p :: ps).length = 2 := of_decide_eq_true hl
          exact ed_is (ev_cb (eds_cons (ed_is (ed_lcD (fun _ => true) (fun d => .bool (inB d 0 (n - 1))) (ev_seqT sl) (by rw [hl']; decide) (fun _ => rfl) (fun d v B6 _ _ _ => et_yes) (fun d v B6 _ _ e6 hdv => ed_F (eds_cons (ed_var rfl hdv) (eds_cons ed_int (eds_cons (n1 _ _ rfl) eds_nil))) ⟨_, _, _, rfl⟩ rfl)) (by rw [mapb])) eds_nil) rc_all) (by rw [all_id])
        · rw [rl2]
          unfold tailD
          rw [hb3, hb4, hb5, if_neg (by decide), if_neg (by decide)]
          rfl
        · obtain rfl := dd_bl h6
          exact fin _ B6 H6 a6 rfl
      · refine sv_ret (P := DD K (.bool false)) a5 ed_bl fun v1 B6 H6 e6 a6 h6 => ?_
        obtain rfl := dd_bl h6
        refine fin _ B6 H6 a6 ?_
        rw [rl2]
        unfold tailD
        rw [hb3, hb4, hb5]
        rfl
    · refine qv_when (b := true) a (et_is (et_or (b := !isTupD d) (c := true) (et_not (et_val (ed_isi (ed_var rfl hv) (kit_tup _)))) fun h => by rw [h1] at h; cases h) (by rw [h1]; rfl)) (fun hb B1 H1 e1 a1 => ?_) (fun h => nomatch h)
      refine sv_ret (P := DD K (.bool false)) a1 ed_bl fun v1 B2 H2 e2 a2 g2 => ?_
      obtain rfl := dd_bl g2
      exact fin _ B2 H2 a2 (h2 n).symm
    · refine qv_when (b := true) a (et_is (et_or (b := false) (c := true) (et_not (et_val (ed_isi (ed_var rfl hv) (kit_tup _)))) fun _ => et_is (et_or (b := true) (c := true) (et_is (et_cmp (ed_op (ev_cb (eds_cons (ed_var rfl hv) eds_nil) (rc_len rfl)) ed_int rd_lt)) (decide_eq_true (by show ((xs.length : Nat) : Int) < 3; omega))) fun h => nomatch h) rfl) rfl) (fun hb B1 H1 e1 a1 => ?_) (fun h => nomatch h)
      refine sv_ret (P := DD K (.bool false)) a1 ed_bl fun v1 B2 H2 e2 a2 g2 => ?_
      obtain rfl := dd_bl g2
      exact fin _ B2 H2 a2 (h2 n).symm
abbrev s_is_rules : Stmt := topS 32
abbrev N_is_rules : List Str := ["value", "kinds", "rule"]
theorem sc_is_rules : FnScope N_is_rules ["value", "kinds"] (defScope s_is_rules) := ⟨rfl, rfl, rfl, by decide +kernel, rfl, by decide +kernel, by decide +kernel⟩
theorem tup_is {d : PyData} (h : isTupD d = true) : ∃ ds, d = .tuple ds := by
  cases d with
  | tuple ds => exact ⟨ds, rfl⟩
  | _ => cases h
theorem ok_is_rules (F : Fun K "is_rules" "is_rules" s_is_rules f fd) (T : TC K mg) (C_is_rule : Callee P w K mg base "is_rule" 3 ["value", "kinds"] (spF K (fun ds => ∃ d n, ds = [d, .int n]) fRule)) : FnOk P w K mg base CX0 4 f fd ["value", "kinds"] (spF K (fun ds => ∃ d n, ds = [d, .int n]) fRules) := by
  refine F.ok sc_is_rules (fun vs H Q E h => ?_) (fun cdv A outer s H vs Q E hr h => ?_)
  · obtain ⟨B, ds, e, hd, ⟨d, n, rfl⟩, q⟩ := h
    exact hd.len
  · obtain ⟨B, ds, e, hd, ⟨d, n, rfl⟩, q⟩ := h
    obtain ⟨v, v2, rfl, hv, hn⟩ := arg2 hd
    obtain rfl := dd_int hn
    refine ⟨_, (pss_cons (ps_if (PW.pt (pw_or (pt_not (pt_val (pe_callB (call_isiK1 K) (by rfl) T.m_isinstance bt_isinstance (pa_cons (pv 0) (pa_cons (pe_bltn (v := .ty "tuple") (by rfl) T.m_tuple bt_tuple rfl) pa_nil))))) (pw_or1 (pt_not (pt_chain op_le op_le pe_int (pe_callB (call_lenK K) (by rfl) T.m_len bt_len (pa_cons (pv 0) pa_nil)) (pe_gint rfl T.c_MOST_RULES)))))) (pss_one (ps_ret pe_bl)) pss_nil)
      (pss_one (ps_ret (pe_callB (cr_allK K) (by rfl) T.m_all bt_all (pa_cons (pe_lc (own := [("rule", 2)]) rfl sc_is_rules.nd (pi_seqK K (pv 0)) (blkOk_by (own := [("rule", 2)]) (N := N_is_rules) (sc := defScope s_is_rules) (by decide +kernel)) (fun _ _ _ _ _ => pg_name (i := 2) sc_is_rules.nd rfl (Or.inl rfl)) (fun _ _ _ _ _ => pts_nil) (fun _ _ _ _ _ => (pe_callC C_is_rule (hr.mono (by decide)) rfl pass0 (pa_cons (pv 2) (pa_cons (pv 1) pa_nil))))) pa_nil))))), ?_⟩
    have a : At Fm.pure B H B H := At.start (Ok.any e)
    have fin : ∀ b B1 H1, At Fm.pure B H B1 H1 → b = rulesD d n → Q (.bl b) H1 := fun b B1 H1 a1 eb => by
      refine q _ B1 H1 a1.st ?_
      show Dd K B1 (.bl b) (.bool (rulesD d n))
      rw [eb]
      exact .bl _
    by_cases hs : isTupD d = true
    · obtain ⟨x, rfl⟩ := tup_is hs
      refine qv_when (b := !(decide ((1 : Int) ≤ (x.length : Nat)) && decide (((x.length : Nat) : Int) ≤ 90))) a (et_is (et_or (b := false) (et_not (et_val (ed_isi (ed_var rfl hv) (kit_tup _)))) fun _ => et_not (et_cmp (ed_chain (ed_int) (ev_cb (eds_cons (ed_var rfl hv) eds_nil) (rc_len rfl)) rd_le fun _ => ⟨_, ed_int, rd_le⟩))) (by rfl)) (fun hb B1 H1 e1 a1 => ?_) (fun hb B1 H1 e1 a1 => ?_)
      · refine sv_ret (P := DD K (.bool false)) a1 ed_bl fun v1 B2 H2 e2 a2 h2 => ?_
        obtain rfl := dd_bl h2
        refine fin _ B2 H2 a2 ?_
        rw [rulesD_tup]
        rw [Bool.not_eq_true'] at hb
        rw [hb]
        rfl
      · rw [Bool.not_eq_false'] at hb
        have hz : x.length ≤ 90 := by
          rw [Bool.and_eq_true, decide_eq_true_eq, decide_eq_true_eq] at hb
          omega
        refine sv_ret (P := DD K (.bool (rulesD (.tuple x) n))) a1 (ed_is (ev_cb (eds_cons (ed_is (ed_lcD (fun _ => true) (fun d => .bool (ruleD d n)) (ev_seqT (ed_var rfl (hv.up e1))) (by omega) (fun _ => rfl) (fun d v B2 _ _ _ => et_yes) (fun d v B2 _ _ e2 hdv => ed_F (eds_cons (ed_var rfl hdv) (eds_cons (ed_var rfl (.int n)) eds_nil)) ⟨_, _, rfl⟩ rfl)) (by rw [mapb])) eds_nil) rc_all) ?_) fun v1 B2 H2 e2 a2 h2 => ?_
        · rw [rulesD_tup]
          rw [hb, all_id]
          rfl
        · obtain rfl := dd_bl h2
          exact fin _ B2 H2 a2 rfl
    · have hs' : isTupD d = false := by simpa using hs
      refine qv_when (b := true) a (et_is (et_or (b := !isTupD d) (c := true) (et_not (et_val (ed_isi (ed_var rfl hv) (kit_tup _)))) fun h => by rw [hs'] at h; cases h) (by rw [hs']; rfl)) (fun hb B1 H1 e1 a1 => ?_) (fun h => nomatch h)
      refine sv_ret (P := DD K (.bool false)) a1 ed_bl fun v1 B2 H2 e2 a2 h2 => ?_
      obtain rfl := dd_bl h2
      refine fin _ B2 H2 a2 ?_
      cases d <;> first | rfl | cases hs' 
end
end K50

namespace K50
open PySem PySem.Spec PyProof.Rows L2 Evl Ex Dx
open PySem.PyData (strOk)

section
variable {P : Program} {w : World} {K : PySem.W.Frag} {mg : Str → Option Value} {base : Heap} {f : Addr} {fd : FuncData}

theorem isI_is {d : PyData} (h : isI d = true) : ∃ i, d = .int i := by
  cases d with
  | int i => exact ⟨i, rfl⟩
  | _ => cases h
theorem numsD_tup (ds : List PyData) (n : Int) : numsD (.tuple ds) n = ds.all fun e => inB e 0 (n - 1) := rfl
theorem inB_not (d : PyData) (n : Int) (h : isI d = false) : inB d 0 (n - 1) = false := by
  cases d <;> first | rfl | cases h
abbrev s_law_is_due : Stmt := topS 109
abbrev N_law_is_due : List Str := ["told", "due"]
theorem sc_law_is_due : FnScope N_law_is_due ["told", "due"] (defScope s_law_is_due) := ⟨rfl, rfl, rfl, by decide +kernel, rfl, by decide +kernel, by decide +kernel⟩
def fIs : List PyData → PyData
  | [.bool a, .bool b] => .bool (a == b)
  | _ => .none
theorem ok_law_is_due (F : Fun K "_law_is_due" "_law_is_due" s_law_is_due f fd) (T : TC K mg) : FnOk P w K mg base CX0 1 f fd ["told", "due"] (spF K (fun ds => ∃ a b, ds = [.bool a, .bool b]) fIs) := by
  refine F.ok sc_law_is_due (fun vs H Q E h => ?_) (fun cdv A outer s H vs Q E hr h => ?_)
  · obtain ⟨B, ds, e, hd, ⟨x, y, rfl⟩, q⟩ := h
    exact hd.len
  · obtain ⟨B, ds, e, hd, ⟨x, y, rfl⟩, q⟩ := h
    obtain ⟨v, v2, rfl, hv, hn⟩ := arg2 hd
    obtain rfl := dd_bl hn
    obtain rfl := dd_bl hv
    refine ⟨_, (pss_one (ps_ret (pe_ifExp (pt_tru K (pv 1)) (pe_cmpR op_isBl (pv 0) pe_bl (nomark _)) (pe_cmpR op_isBl (pv 0) pe_bl (nomark _))))), ?_⟩
    have a : At Fm.pure B H B H := At.start (Ok.any e)

    refine sv_ret (P := DD K (.bool (x == y))) a (ev_if (et_tru (ed_var rfl (.bl y))) (fun hy => ed_is (ed_op (ed_var rfl (.bl x)) ed_bl rd_isB) ?_) (fun hy => ed_is (ed_op (ed_var rfl (.bl x)) ed_bl rd_isB) ?_)) fun v1 B2 H2 e2 a2 h2 => ?_
    · have hy' : y = true := hy
      subst hy'
      cases x <;> rfl
    · have hy' : y = false := hy
      subst hy'
      cases x <;> rfl
    · exact q _ B2 H2 a2.st h2
theorem in123 (n : Nat) : inD (.int (n : Nat)) [.int 1, .int 2, .int 3] = (decide ((1 : Int) ≤ (n : Nat)) && decide (((n : Nat) : Int) ≤ 3)) := by
  unfold inD
  simp only [List.any_cons, List.any_nil, eqv_int, Bool.or_false]
  rw [Bool.eq_iff_iff]
  simp only [Bool.or_eq_true, beq_iff_eq, Bool.and_eq_true, decide_eq_true_eq]
  omega
theorem numsD_one (x : PyData) (n : Int) : numsD (.tuple [x]) n = inB x 0 (n - 1) := by
  rw [numsD_tup, List.all_cons, List.all_nil, Bool.and_true]
end
end K50

namespace K50
open PySem PySem.Spec PyProof.Rows L2 Evl Ex Dx
open PySem.PyData (strOk)

section
variable {P : Program} {w : World} {K : PySem.W.Frag} {mg : Str → Option Value} {base : Heap} {f : Addr} {fd : FuncData}

def itemsD : PyData → List PyData
  | .list xs => xs
  | .tuple xs => xs
  | _ => []
def fUn : List PyData → PyData
  | [d] => .list ((edges (itemsD d)).map toD)
  | _ => .none
def preUn (ds : List PyData) : Prop := ∃ d rs n, ds = [d] ∧ (d = .list rs ∨ d = .tuple rs) ∧ rs.length ≤ 100 ∧ ∀ r ∈ rs, ruleD r n = true
def ofD (d : PyData) : Int × Int := match d with
  | .tuple [.int a, .int b] => (a, b)
  | _ => (0, 0)
theorem ofD_toD (E : List (Int × Int)) : (E.map toD).map ofD = E := by
  rw [List.map_map]
  exact List.map_id'' (fun _ => rfl) E
def fBack : List PyData → PyData
  | [.list es, .int n] => optD (backK (es.map ofD) n.toNat)
  | _ => .none
def preBack (ds : List PyData) : Prop := ∃ (E : List (Int × Int)) (n : Nat), ds = [.list (E.map toD), .int (n : Nat)] ∧ E.length ≤ 100 ∧ n ≤ 40
theorem inD_int (x : Int) (S : List Int) : inD (.int x) (S.map .int) = S.contains x := by
  unfold inD
  rw [List.any_map, Bool.eq_iff_iff, List.any_eq_true, List.contains_iff_mem]
  constructor
  · rintro ⟨y, hy, he⟩
    have e : (y == x) = true := (eqv_int y x).symm.trans he
    rw [beq_iff_eq] at e
    exact e ▸ hy
  · intro h
    exact ⟨x, h, (eqv_int x x).trans (beq_self_eq_true x)⟩
theorem flatI (S : List Int) : (S.map PyData.int).all flatD = true := by
  rw [List.all_map]
  exact List.all_eq_true.mpr fun _ _ => rfl
theorem lc_E (E : List (Int × Int)) (p : Int × Int → Bool) : ((E.map toD).filter fun d => p (ofD d)).map (fun d => PyData.int (ofD d).2) = ((E.filter p).map (·.2)).map PyData.int := by
  rw [List.filter_map, List.map_map, List.map_map]
  rfl
theorem backK_some {E : List (Int × Int)} {n i : Nat} (hi : i < n) (h : (Gm.turns E (i : Int) (n + 1)).contains (i : Int) = true) (hb : ∀ k, k < i → (Gm.turns E (k : Int) (n + 1)).contains (k : Int) = false) : backK E n = some (i : Int) := by
  unfold backK
  rw [List.find?_range_eq_some.mpr ⟨h, List.mem_range.mpr hi, fun j hj => by rw [hb j hj]; rfl⟩]
  rfl
theorem backK_none {E : List (Int × Int)} {n : Nat} (hb : ∀ k, k < n → (Gm.turns E (k : Int) (n + 1)).contains (k : Int) = false) : backK E n = none := by
  unfold backK
  rw [List.find?_eq_none.mpr fun k hk => by rw [hb k (List.mem_range.mp hk)]; decide]
  rfl
def tq (i : Int) (S : List Int) (q : Int × Int) : Bool := (q.1 == i || S.contains q.1) && !S.contains q.2
theorem at2_0 {x y : PyData} : atI [x, y] 0 = some x := atI_nat (j := 0) rfl
theorem at2_1 {x y : PyData} : atI [x, y] 1 = some y := atI_nat (j := 1) rfl

abbrev s_law_unary : Stmt := topS 112
abbrev N_law_unary : List Str := ["rules", "rule"]
theorem sc_law_unary : FnScope N_law_unary ["rules"] (defScope s_law_unary) := ⟨rfl, rfl, rfl, by decide +kernel, rfl, by decide +kernel, by decide +kernel⟩
theorem ok_law_unary (F : Fun K "_law_unary" "_law_unary" s_law_unary f fd) (T : TC K mg) : FnOk P w K mg base CX0 1 f fd ["rules"] (spF K preUn fUn) := by
  refine F.ok sc_law_unary (fun vs H Q E h => ?_) (fun cdv A outer s H vs Q E hr h => ?_)
  · obtain ⟨B, ds, e, hd, ⟨d, rs, n, rfl, hrs, hl, hv⟩, q⟩ := h
    exact hd.len
  · obtain ⟨B, ds, e, hd, ⟨d, rs, n, rfl, hrs, hl, hval⟩, q⟩ := h
    obtain ⟨v, rfl, hv⟩ := arg1 hd
    refine ⟨_, (pss_one (ps_ret (pe_lc (own := [("rule", 1)]) rfl sc_law_unary.nd (pi_seqK K (pv 0)) (blkOk_by (own := [("rule", 1)]) (N := N_law_unary) (sc := defScope s_law_unary) (by decide +kernel)) (fun _ _ _ _ _ => pg_name (i := 1) sc_law_unary.nd rfl (Or.inl rfl)) (fun _ _ _ _ _ => (pts_one (pt_cmpR (op_inK K) (pe_ix (ix_seqK K) (pv 1) pe_int (fun _ _ => rfl)) (pe_lst (pa_cons pe_str (pa_cons pe_str (pa_cons pe_str pa_nil)))) (by rfl)))) (fun _ _ _ _ _ => (pe_tup (pa_cons (pe_ix (ix_seqK K) (pv 1) pe_int (fun _ _ => rfl)) (pa_cons (pe_ix (ix_seqK K) (pv 1) pe_int (fun _ _ => rfl)) pa_nil))))))), ?_⟩
    have a : At Fm.pure B H B H := At.start (Ok.any e)

    have sq : EV Fm.pure (tVar 0) (L2.start N_law_unary [v]) B (SqV K (DDs K rs)) := by
      rcases hrs with rfl | rfl
      · exact ev_seqL (ed_var rfl hv)
      · exact ev_seqT (ed_var rfl hv)
    have fi : fUn [d] = .list ((rs.filter isOne).map fun r => toD (edge r)) := by
      have e : itemsD d = rs := by rcases hrs with rfl | rfl <;> rfl
      show PyData.list ((edges (itemsD d)).map toD) = _
      rw [e]
      unfold edges
      rw [List.map_map]
      rfl
    refine sv_ret (P := DD K (fUn [d])) a (ed_is (ed_lcD isOne (fun r => toD (edge r)) sq (by omega) (fun _ => rfl) (fun r v B2 hm _ hr2 => ?_) (fun r v B2 hm ho _ hr2 => ?_)) fi.symm) fun v1 B2 H2 e2 a2 h2 => q _ B2 H2 a2.st h2
    · obtain ⟨x, s, p, ps, rfl, _, _, _⟩ := ruleD_is (hval r hm)
      exact et_cmp (inSL (ed_op (ed_var rfl hr2) ed_int (rd_ixT at3_1)) pyStr)
    · obtain ⟨x, s, c, rfl, _, _, _, _, _⟩ := one_is (hval r hm) ho
      exact ed_tup (eds_cons (ed_op (ed_var rfl hr2) ed_int (rd_ixT at3_0)) (eds_cons (ed_op (ed_var rfl hr2) ed_int (rd_ixT at3_2)) eds_nil))
abbrev s_law_back_kind : Stmt := topS 111
abbrev N_law_back_kind : List Str := ["steps", "kinds", "kind", "found", "turn", "pair"]
theorem sc_law_back_kind : FnScope N_law_back_kind ["steps", "kinds"] (defScope s_law_back_kind) := ⟨rfl, rfl, rfl, by decide +kernel, rfl, by decide +kernel, by decide +kernel⟩
theorem ok_law_back_kind (F : Fun K "_law_back_kind" "_law_back_kind" s_law_back_kind f fd) (T : TC K mg) : FnOk P w K mg base CX0 1 f fd ["steps", "kinds"] (spF K preBack fBack) := by
  refine F.ok sc_law_back_kind (fun vs H Q E h => ?_) (fun cdv A outer s H vs Q E hr h => ?_)
  · obtain ⟨B, ds, e, hd, ⟨E, n, rfl, hl, hn⟩, q⟩ := h
    exact hd.len
  · obtain ⟨B, ds, e, hd, ⟨E, n, rfl, hl, hn⟩, q⟩ := h
    obtain ⟨v, v2, rfl, hv, hn2⟩ := arg2 hd
    obtain rfl := dd_int hn2
    have hu64 : (A.deeper (envOfC "_law_back_kind" (defScope s_law_back_kind) s.heap.objs.size f cdv)).units + 64 < cLine := hr.units
    refine ⟨_, (pss_cons (ps_for PassesOwn.never rfl (pi_range1 rfl T.m_range (pa_cons (pv 1) pa_nil)) (pg_name (i := 2) sc_law_back_kind.nd rfl (Or.inr rfl)) (pss_cons (ps_set (i := 3) sc_law_back_kind.nd rfl (Or.inr rfl) (pe_lst pa_nil))
      (pss_cons (ps_for PassesOwn.never rfl (pi_range1 rfl T.m_range (pa_cons (pe_op (op_addK K) (pv 1) pe_int) pa_nil)) (pg_name (i := 4) sc_law_back_kind.nd rfl (Or.inl rfl)) (pss_one (ps_set (i := 3) sc_law_back_kind.nd rfl (Or.inr rfl) (pe_op (op_addK K) (pv 3) (pe_lc (own := [("pair", 5)]) rfl sc_law_back_kind.nd (pi_seqK K (pv 0)) (blkOk_by (own := [("pair", 5)]) (N := N_law_back_kind) (sc := defScope s_law_back_kind) (by decide +kernel)) (fun _ _ _ _ _ => pg_name (i := 5) sc_law_back_kind.nd rfl (Or.inl rfl)) (fun _ _ _ _ _ => (pts_one (PW.pt (pw_and (PW.pt (pw_or (pt_cmpR (op_eqDK K hu64) (pe_ix (ix_seqK K) (pv 5) pe_int (fun _ _ => rfl)) (pv 2) (nomark _)) (pw_or1 (pt_cmpR (op_inK K) (pe_ix (ix_seqK K) (pv 5) pe_int (fun _ _ => rfl)) (pv 3) (by rfl))))) (pw_and1 (pt_cmpR (op_ninK K) (pe_ix (ix_seqK K) (pv 5) pe_int (fun _ _ => rfl)) (pv 3) (by rfl))))))) (fun _ _ _ _ _ => (pe_ix (ix_seqK K) (pv 5) pe_int (fun _ _ => rfl))))))))
      (pss_one (ps_if (pt_cmpR (op_inK K) (pv 2) (pv 3) (by rfl)) (pss_one (ps_ret (pv 2))) pss_nil)))))
      (pss_one (ps_ret pe_non))), ?_⟩
    have a : At Fm.pure B H B H := At.start (Ok.any e)

    have fb : fBack [.list (E.map toD), .int (n : Nat)] = optD (backK E n) := by
      show optD (backK ((E.map toD).map ofD) ((n : Int)).toNat) = _
      rw [ofD_toD]
      rfl
    refine qd_forR (K := K) (n := (n : Nat)) a (eds_cons (ed_var rfl (.int _)) eds_nil) ⟨by omega, by omega⟩ (fun i σ' B' => (∃ o1 o2 o3, σ' = [some v, some (.int (n : Nat)), o1, o2, o3, none]) ∧ ∀ k : Nat, k < i → (Gm.turns E (k : Int) (n + 1)).contains (k : Int) = false) (fun B1 _ => ⟨⟨none, none, none, rfl⟩, fun k hk => absurd hk (Nat.not_lt_zero k)⟩) ?_ ?_
    · rintro Bb i σ' B1 H1 eb hi e1 a1 ⟨⟨o1, o2, o3, rfl⟩, hno⟩
      have hi' : i < n := by omega
      refine qv_asg a1 (ed_lst (K := K) eds_nil) fun vf B2 H2 e2 a2 hf => ?_
      refine qd_forR (K := K) (n := (n : Nat) + 1) a2 (eds_cons (ed_op (ed_var rfl (.int _)) ed_int rd_add) eds_nil) ⟨by omega, by omega⟩ (fun t σ' B' => ∃ o3 vf, σ' = [some v, some (.int (n : Nat)), some (.int (i : Nat)), some vf, o3, none] ∧ Dd K B' vf (.list ((Gm.turns E (i : Nat) t).map .int))) (fun B3 e3 => ⟨o3, vf, rfl, hf.up e3⟩) ?_ ?_
      · rintro Bc t σ' B3 H3 ec ht e3 a3 ⟨o4, vg, rfl, hg⟩
        have ht' : t ≤ 41 := by omega
        have hS : (Gm.turns E (i : Nat) t).length ≤ 4100 := Nat.le_trans (Gm.turns_len E (i : Nat) t) (Nat.le_trans (Nat.mul_le_mul ht' hl) (by decide))
        have eB : Ex B B3 := ((eb.trans e1).trans e2).trans (ec.trans e3)
        refine sv_asg a3 (ed_op (ed_var rfl hg) (ed_lcD (fun d => tq (i : Int) (Gm.turns E (i : Nat) t) (ofD d)) (fun d => .int (ofD d).2) (ev_seqL (ed_var rfl (hv.up eB))) (by rw [List.length_map]; omega) (fun _ => rfl) (fun d u B4 hm e4 hd4 => ?_) (fun d u B4 hm _ e4 hd4 => ?_)) (rd_addL ?_)) fun v4 B4 H4 e4 a4 h4 => ?_
        · obtain ⟨⟨x, y⟩, _, rfl⟩ := List.mem_map.mp hm
          have c1 : ∀ B5, Ex B4 B5 → True := fun _ _ => trivial
          refine et_and (et_or (et_is (et_cmp (ed_op (K := K) (ed_op (ed_var rfl hd4) ed_int (rd_ixT at2_0)) (ed_var rfl (.int (i : Nat))) (rd_eqD rfl rfl))) (eqv_int _ _)) fun _ => et_is (et_cmp (ed_op (K := K) (ed_op (ed_var rfl hd4) ed_int (rd_ixT at2_0)) (ed_var rfl (hg.up e4)) (rd_isin (.inl rfl) rfl (flatI _)))) (inD_int _ _)) fun _ => et_is (et_cmp (ed_op (K := K) (ed_op (ed_var rfl hd4) ed_int (rd_ixT at2_1)) (ed_var rfl (hg.up e4)) (rd_notin (.inl rfl) rfl (flatI _)))) (congrArg Bool.not (inD_int _ _))
        · obtain ⟨⟨x, y⟩, _, rfl⟩ := List.mem_map.mp hm
          exact ed_op (ed_var rfl hd4) ed_int (rd_ixT at2_1)
        · rw [lc_E E (tq (i : Int) (Gm.turns E (i : Nat) t)), List.length_map, List.length_map, List.length_map]
          have := List.length_filter_le (tq (i : Int) (Gm.turns E (i : Nat) t)) E
          omega
        · rw [lc_E E (tq (i : Int) (Gm.turns E (i : Nat) t)), ← List.map_append] at h4
          exact ⟨B4, e3.trans e4, a4, _, v4, rfl, h4⟩
      · rintro σ' B3 H3 e3 a3 ⟨o4, vg, rfl, hg⟩
        have hg' : Dd K B3 vg (.list ((Gm.turns E (i : Nat) (n + 1)).map .int)) := hg
        refine sv_if (b := (Gm.turns E (i : Nat) (n + 1)).contains (i : Nat)) a3 (et_is (et_cmp (ed_op (ed_var rfl (.int (i : Nat))) (ed_var rfl hg') (rd_isin (.inl rfl) rfl (flatI _)))) (inD_int _ _)) (fun hb B4 H4 e4 a4 => ?_) (fun hb B4 H4 e4 a4 => ?_)
        · refine sv_ret (P := DD K (.int (i : Nat))) a4 (ed_var rfl (.int _)) fun v5 B5 H5 e5 a5 h5 => q _ B5 H5 a5.st ?_
          rw [fb, backK_some hi' hb hno]
          exact h5
        · refine ⟨B4, ((e1.trans e2).trans e3).trans e4, a4, ⟨_, _, _, rfl⟩, fun k hk => ?_⟩
          rcases Nat.lt_succ_iff_lt_or_eq.mp hk with h | rfl
          · exact hno k h
          · exact hb
    · rintro σ' B1 H1 e1 a1 ⟨⟨o1, o2, o3, rfl⟩, hno⟩
      refine sv_ret (P := DD K .none) a1 ed_non fun v5 B5 H5 e5 a5 h5 => q _ B5 H5 a5.st ?_
      rw [fb, backK_none fun k hk => hno k (by show k < ((n : Nat) : Int).toNat; omega)]
      exact h5
def fDue : List PyData → PyData
  | [k, r] => dueD k r
  | _ => .none
theorem due_num {k r : PyData} (h : (!isI k || (decide ((match k with | .int i => i | _ => 0) < 1) || decide (40 < (match k with | .int i => i | _ => 0)))) = true) : dueD k r = .tuple [.str "number", k] := by
  cases k with
  | int n =>
    have h' : n < 1 ∨ 40 < n := by simpa [isI] using h
    unfold dueD
    simp only
    rw [if_neg (by omega)]
  | _ => rfl
theorem due_rules {n : Int} {r : PyData} (h0 : 1 ≤ n ∧ n ≤ 40) (h : rulesD r n = false) : dueD (.int n) r = .tuple [.str "rules", r] := by
  unfold dueD
  simp only
  rw [if_pos h0, h, if_neg (by decide)]
theorem due_back {n : Int} {rs : List PyData} (h0 : 1 ≤ n ∧ n ≤ 40) (h : rulesD (.tuple rs) n = true) : dueD (.int n) (.tuple rs) = (match backK (edges rs) n.toNat with | none => .tuple [.str "kept", .int n, .tuple rs] | some b => .tuple [.str "endless", .int b]) := by
  unfold dueD
  simp only
  rw [if_pos h0, if_pos h]
  first
    | done
    | cases backK (edges rs) n.toNat <;> rfl
theorem rules_all {rs : List PyData} {n : Int} (h : rulesD (.tuple rs) n = true) : 1 ≤ rs.length ∧ rs.length ≤ 90 ∧ ∀ r ∈ rs, ruleD r n = true := by
  rw [rulesD_tup, Bool.and_eq_true, Bool.and_eq_true, decide_eq_true_eq, decide_eq_true_eq, List.all_eq_true] at h
  exact ⟨by omega, by omega, h.2⟩
end
end K50

namespace K50
open PySem PySem.Spec PyProof.Rows L2 Evl Ex Dx
open PySem.PyData (strOk)

section
variable {P : Program} {w : World} {K : PySem.W.Frag} {mg : Str → Option Value} {base : Heap} {f : Addr} {fd : FuncData}

/-! ### what is new in a heap, alone -/
def rst (B H H' : Hp) : Hp := fun a => if ((H a).isSome && (B a).isNone) = true then none else H' a
theorem rst_old {B H H' : Hp} {a : Addr} {o : HO} (e : Ex B H) (e' : Ex H H') (h : B a = some o) : rst B H H' a = some o := by
  unfold rst
  rw [h, if_neg (by simp)]
  exact e' _ _ (e _ _ h)
theorem rst_new {B H H' : Hp} {a : Addr} (h : H a = none) : rst B H H' a = H' a := by
  unfold rst
  rw [h, if_neg (by simp)]
theorem rst_sub {B H H' : Hp} {a : Addr} {o : HO} (h : rst B H H' a = some o) : H' a = some o := by
  unfold rst at h
  split at h
  · cases h
  · exact h
theorem rst_step {B H H' : Hp} (e : Ex B H) (e' : Ex H H') : Step (fun _ => False) B H (rst B H H') H' :=
  ⟨fun a o h => rst_old e e' h, fun a o h => rst_sub h, fun a o _ h => e' _ _ h, fun a h n => by
    unfold rst
    rw [h, if_pos]
    cases hh : H a with
    | none => exact absurd hh n.ne
    | some o => rfl, (fun a n => by
    cases hh : H a with
    | none => exact absurd hh n
    | some o =>
      rw [e' _ _ hh]
      exact fun z => nomatch z), fun a ⟨o, h, n⟩ => ⟨o, e' _ _ h, n⟩⟩
theorem ddAll_int {H : Hp} : ∀ S : List Int, DdAll K H (S.map V.int) (S.map .int)
  | [] => .nil
  | i :: S => .cons (.int i) (ddAll_int S)
theorem dd_ints {H : Hp} {a : Addr} {S : List Int} (h : H a = some (.lst (S.map V.int))) (hl : S.length ≤ 16777216) : Dd K H (.ref a) (.list (S.map .int)) := .lst h (by rw [List.length_map, sizeLine_eq]; exact hl) (ddAll_int S)
theorem ints_dd {H : Hp} : ∀ {S : List Int} {vs : List V}, DdAll K H vs (S.map .int) → vs = S.map V.int
  | [], _, h => by cases h; rfl
  | i :: S, _, h => by
    cases h with
    | cons a t =>
      rw [dd_int a, ints_dd t]
      rfl
theorem ddAll_of {H : Hp} : ∀ {vs : List V} {ds : List PyData}, vs.length = ds.length → (∀ (i : Nat) (v : V) (d : PyData), vs[i]? = some v → ds[i]? = some d → Dd K H v d) → DdAll K H vs ds
  | [], [], _, _ => .nil
  | [], _ :: _, h, _ => by simp at h
  | _ :: _, [], h, _ => by simp at h
  | v :: vs, d :: ds, h, g => .cons (g 0 v d rfl rfl) (ddAll_of (by simpa using h) fun i v d h1 h2 => g (i + 1) v d (by simpa using h1) (by simpa using h2))
def adj (E : List (Int × Int)) (k : Int) : List Int := (E.filter fun p => p.1 == k).map (·.2)
theorem mem_adj {E : List (Int × Int)} {k x : Int} : x ∈ adj E k ↔ (k, x) ∈ E := by
  unfold adj
  rw [List.mem_map]
  constructor
  · rintro ⟨⟨a, b⟩, h, rfl⟩
    obtain ⟨h1, h2⟩ := List.mem_filter.mp h
    rw [beq_iff_eq] at h2
    exact h2 ▸ h1
  · intro h
    exact ⟨(k, x), List.mem_filter.mpr ⟨h, beq_self_eq_true k⟩, rfl⟩
theorem adj_len (E : List (Int × Int)) (k : Int) : (adj E k).length ≤ E.length := by
  unfold adj
  rw [List.length_map]
  exact List.length_filter_le _ _
theorem adj_snoc (E : List (Int × Int)) (a c k : Int) : adj (E ++ [(a, c)]) k = adj E k ++ (if a = k then [c] else []) := by
  unfold adj
  rw [List.filter_append, List.map_append]
  congr 1
  by_cases h : a = k
  · rw [if_pos h, List.filter_cons, if_pos (beq_iff_eq.mpr h)]
    rfl
  · rw [if_neg h, List.filter_cons, if_neg (fun z => h (beq_iff_eq.mp z))]
    rfl
def adjD (E : List (Int × Int)) (n : Nat) : PyData := .list ((List.range n).map fun k => .list ((adj E (k : Nat)).map .int))
/-! ### steps_of -/
structure Rep (H0 H : Hp) (Dl : Addr) (refs : List Addr) (c : Nat → List Int) : Prop where
  ex : Ex H0 H
  fD : H0 Dl = none
  hD : H Dl = some (.lst (refs.map V.ref))
  nd : refs.Nodup
  it : ∀ i r, refs[i]? = some r → H0 r = none ∧ r ≠ Dl ∧ H r = some (.lst ((c i).map V.int))
theorem Rep.mono {H0 H H' : Hp} {Dl : Addr} {refs : List Addr} {c : Nat → List Int} (R : Rep H0 H Dl refs c) (e : Ex H H') : Rep H0 H' Dl refs c := ⟨R.ex.trans e, R.fD, e _ _ R.hD, R.nd, fun i r h => ⟨(R.it i r h).1, (R.it i r h).2.1, e _ _ (R.it i r h).2.2⟩⟩
theorem Rep.data {B H0 H : Hp} {Dl : Addr} {refs : List Addr} {c : Nat → List Int} {n : Nat} (R : Rep H0 H Dl refs c) (e : Ex B H0) (hn : refs.length = n) (h1 : n ≤ 16777216) (h2 : ∀ i, i < n → (c i).length ≤ 16777216) : Dd K (rst B H0 H) (.ref Dl) (.list ((List.range n).map fun k => .list ((c k).map .int))) := by
  refine .lst ((rst_new R.fD).trans R.hD) (by rw [List.length_map, sizeLine_eq, hn]; exact h1) (ddAll_of (by rw [List.length_map, List.length_map, List.length_range, hn]) fun i v d hv hd => ?_)
  obtain ⟨r, hr, rfl⟩ : ∃ r, refs[i]? = some r ∧ V.ref r = v := by
    rw [List.getElem?_map] at hv
    cases hh : refs[i]? with
    | none => rw [hh] at hv; cases hv
    | some r => rw [hh] at hv; exact ⟨r, rfl, by simpa using hv⟩
  have hi : i < n := by
    rw [← hn]
    exact (List.getElem?_eq_some_iff.mp hr).1
  obtain ⟨f1, _, g1⟩ := R.it i r hr
  rw [List.getElem?_map, List.getElem?_range hi] at hd
  obtain rfl : PyData.list ((c i).map .int) = d := by simpa using hd
  exact dd_ints ((rst_new f1).trans g1) (h2 i hi)
theorem edges_snoc1 {rs : List PyData} {i : Nat} {r : PyData} (h : rs[i]? = some r) (ho : isOne r = true) : edges (rs.take (i + 1)) = edges (rs.take i) ++ [edge r] := by
  rw [take_snoc h]
  unfold edges
  rw [List.filter_append, List.map_append, List.filter_cons, if_pos ho]
  rfl
theorem edges_snoc0 {rs : List PyData} {i : Nat} {r : PyData} (h : rs[i]? = some r) (ho : isOne r = false) : edges (rs.take (i + 1)) = edges (rs.take i) := by
  rw [take_snoc h]
  unfold edges
  rw [List.filter_append, List.filter_cons, if_neg (by rw [ho]; decide), List.filter_nil, List.append_nil]
def fSteps : List PyData → PyData
  | [.int n, .tuple rs] => adjD (edges rs) n.toNat
  | _ => .none
def preS (ds : List PyData) : Prop := ∃ (rs : List PyData) (n : Nat), ds = [.int (n : Nat), .tuple rs] ∧ rs.length ≤ 100 ∧ n ≤ 40 ∧ ∀ r ∈ rs, ruleD r n = true
theorem okH {H : Hp} : Ok Fm.pure H H := Ok.any (Ex.refl H)

abbrev s_steps_of : Stmt := topS 35
abbrev N_steps_of : List Str := ["kinds", "rules", "steps", "rule", "_"]
theorem sc_steps_of : FnScope N_steps_of ["kinds", "rules"] (defScope s_steps_of) := ⟨rfl, rfl, rfl, by decide +kernel, rfl, by decide +kernel, by decide +kernel⟩
theorem ok_steps_of (F : Fun K "steps_of" "steps_of" s_steps_of f fd) (T : TC K mg) : FnOk P w K mg base CX0 1 f fd ["kinds", "rules"] (spF K preS fSteps) := by
  refine F.ok sc_steps_of (fun vs H Q E h => ?_) (fun cdv A outer s H vs Q E hr h => ?_)
  · obtain ⟨B, ds, e, hd, ⟨rs, n, rfl, _⟩, q⟩ := h
    exact hd.len
  · obtain ⟨B, ds, e, hd, ⟨rs, n, rfl, hl, hn, hval⟩, q⟩ := h
    obtain ⟨v, v2, rfl, hv, hv2⟩ := arg2 hd
    obtain rfl := dd_int hv
    obtain ⟨t, us, rfl, ht, _, htd⟩ := dd_tup hv2
    obtain ⟨WO, gO, hO⟩ := T.w_ONE.ex
    refine ⟨_, (pss_cons (ps_setLc (i := 2) (own := [("_", 4)]) rfl sc_steps_of.nd rfl rfl (sw_true rfl rfl rfl (by decide +kernel)) (pi_range1 rfl T.m_range (pa_cons (pv 0) pa_nil)) (blkOk_by (own := [("_", 4)]) (N := N_steps_of) (sc := defScope s_steps_of) (by decide +kernel)) (fun _ _ _ _ _ => pg_name (i := 4) sc_steps_of.nd rfl (Or.inl rfl)) (fun _ _ _ _ _ => pts_nil) (fun _ _ _ _ _ => (pe_lst pa_nil)))
      (pss_cons (ps_for PassesOwn.never rfl (pi_seqK K (pv 1)) (pg_name (i := 3) sc_steps_of.nd rfl (Or.inl rfl)) (pss_one (ps_if (pt_cmpR (op_inK K) (pe_ix (ix_seqK K) (pv 3) pe_int (fun _ _ => rfl)) (pe_glob (v := .ref WO) rfl gO rfl) (by rfl)) (pss_one (ps_expr (pe_bm PySem.F.plainAttrs_list PySem.F.slot_list_append PySem.F.type_list_append mt_append (pe_ix (ix_seqK K) (pv 2) (pe_ix (ix_seqK K) (pv 3) pe_int (fun _ _ => rfl)) (fun _ _ => rfl)) (pa_cons (pe_ix (ix_seqK K) (pv 3) pe_int (fun _ _ => rfl)) pa_nil)))) pss_nil)))
      (pss_one (ps_ret (pv 2))))), ?_⟩
    refine ⟨.int (n : Nat), rfl, (n : Nat), rfl, by omega, by omega, fun Dl hDl => lc_range (lo := 0) (n := n) (fun i H' => ∃ refs : List Addr, refs.length = i ∧ Rep H H' Dl refs fun _ => []) ⟨[], rfl, Ex.new hDl, hDl, upd_same, List.nodup_nil, fun i r h => by simp at h⟩ (fun i H' hi ⟨refs, hlen, R⟩ => ?_) (fun H1 ⟨refs, hlen, R⟩ => ?_)⟩
    · refine ⟨rfl, ?_⟩
      show _ ∧ _
      refine ⟨Nat.zero_le _, fun a ha => ?_⟩
      have hal : a ≠ Dl := fun z => by rw [z, R.hD] at ha; cases ha
      have h0a : H a = none := fresh_back R.ex ha
      refine ⟨refs.map V.ref, by rw [upd_ne (Ne.symm hal)]; exact R.hD, by rw [List.length_map, sizeLine_eq, hlen]; omega, refs ++ [a], by rw [List.length_append, hlen]; rfl, ?_⟩
      refine ⟨fun x o h => ?_, R.fD, by rw [upd_same, List.map_append]; rfl, ?_, fun j r hj => ?_⟩
      · have n1 : x ≠ a := ne_of_none h h0a
        have n2 : x ≠ Dl := ne_of_none h R.fD
        rw [upd_ne n2, upd_ne n1]
        exact R.ex _ _ h
      · rw [List.nodup_append]
        refine ⟨R.nd, by simp, fun x hx y hy => ?_⟩
        rw [List.mem_singleton] at hy
        subst hy
        obtain ⟨j, hj⟩ := List.getElem?_of_mem hx
        intro z
        subst z
        rw [(R.it j x hj).2.2] at ha
        cases ha
      · by_cases hlt : j < refs.length
        · rw [List.getElem?_append_left hlt] at hj
          obtain ⟨r1, r2, r3⟩ := R.it j r hj
          refine ⟨r1, r2, ?_⟩
          have n1 : r ≠ a := fun z => by rw [z, ha] at r3; cases r3
          rw [upd_ne r2, upd_ne n1]
          exact r3
        · rw [List.getElem?_append_right (by omega)] at hj
          have hj0 : j - refs.length = 0 := by
            have := (List.getElem?_eq_some_iff.mp hj).1
            simp at this
            omega
          rw [hj0] at hj
          obtain rfl : a = r := by simpa using hj
          exact ⟨h0a, hal, by rw [upd_ne hal, upd_same]; rfl⟩
    · refine ⟨.ref t, rfl, t, rfl, .inr ⟨⟨us, ex_t (e.trans R.ex) ht⟩, for_tup (K := K) (xs := us) (fun i σ' H' => (∃ o, σ' = [some (.int (n : Nat)), some (.ref t), some (.ref Dl), o, none]) ∧ Rep H H' Dl refs fun k => adj (edges (rs.take i)) (k : Nat)) ⟨⟨none, rfl⟩, R⟩ (fun i σ' H' _ ⟨_, R'⟩ => ex_t (e.trans R'.ex) ht) (fun i x σ' H' hx ⟨⟨o, ho⟩, R'⟩ => ?_) (fun σ' H' ⟨⟨o, ho⟩, R'⟩ => ?_)⟩⟩
      · subst ho
        obtain ⟨r, hr1, hr2⟩ := htd.getv hx
        have hrd : Dd K H' x r := hr2.up (e.trans R'.ex)
        have hval1 := hval r (List.mem_of_getElem? hr1)
        obtain ⟨a, sh, p, ps, rfl, ha0, ha1, htl⟩ := ruleD_is hval1
        have tst : ETt Fm.pure (tTest (tOp (rIn K false) (tOp (rIx K) (tVar 3) (tC (.int 1))) (tC (.ref WO)))) [some (.int (n : Nat)), some (.ref t), some (.ref Dl), some x, none] H' (inS sh OSH) := et_cmp (inST (ed_op (ed_var rfl hrd) ed_int (rd_ixT at3_1)) (ed_v (hO H')))
        refine tst H' (Ex.refl H') H' okH _ fun B2 H2 s2 j2 => ?_
        have R2 := R'.mono s2.ex
        by_cases hone : inS sh OSH = true
        · rw [hone]
          rw [if_pos rfl]
          obtain ⟨rfl, c, rfl, c0, c1⟩ := tailD_one htl hone
          have hrd2 : Dd K H2 x (.tuple [.int a, .str sh, .int c]) := hrd.up s2.ex
          refine ⟨.ref Dl, rfl, ?_⟩
          have ia : ED Fm.pure K (tOp (rIx K) (tVar 3) (tC (.int 0))) [some (.int (n : Nat)), some (.ref t), some (.ref Dl), some x, none] H2 (.int a) := ed_op (ed_var rfl hrd2) ed_int (rd_ixT at3_0)
          refine ia H2 (Ex.refl H2) H2 okH _ fun va B3 H3 s3 j3 ga => ?_
          obtain rfl := dd_int ga
          have R3 := R2.mono s3.ex
          have hlt : a.toNat < refs.length := by rw [hlen]; omega
          obtain ⟨r, hr⟩ : ∃ r, refs[a.toNat]? = some r := ⟨_, List.getElem?_eq_getElem hlt⟩
          have en : ((a.toNat : Nat) : Int) = a := by omega
          refine .inl ⟨Dl, refs.map V.ref, a, .ref r, rfl, rfl, sq_of R3.hD, at_of en.symm (by rw [List.getElem?_map, hr]; rfl), ?_⟩
          obtain ⟨r1, r2, r3⟩ := R3.it _ r hr
          refine ⟨.inl ⟨rfl, _, sq_of r3⟩, ?_⟩
          have ic : ED Fm.pure K (tOp (rIx K) (tVar 3) (tC (.int 2))) [some (.int (n : Nat)), some (.ref t), some (.ref Dl), some x, none] H3 (.int c) := ed_op (ed_var rfl (hrd2.up s3.ex)) ed_int (rd_ixT at3_2)
          refine ic H3 (Ex.refl H3) H3 okH _ fun vc B4 H4 s4 j4 gc => ?_
          obtain rfl := dd_int gc
          have R4 := R3.mono s4.ex
          obtain ⟨q1, q2, q3⟩ := R4.it _ r hr
          refine ⟨r, _, .int c, rfl, rfl, q3, ?_, ⟨_, rfl⟩, ?_⟩
          · have := adj_len (edges (rs.take i)) ((a.toNat : Nat) : Int)
            have h2 := edges_len (rs.take i)
            have h3 : (rs.take i).length ≤ rs.length := by rw [List.length_take]; exact Nat.min_le_right _ _
            rw [List.length_map, sizeLine_eq]
            omega
          · refine ⟨fun y o h => ?_, R4.fD, by rw [upd_ne (Ne.symm q2)]; exact R4.hD, R4.nd, fun j y hy => ?_⟩
            · rw [upd_ne (ne_of_none h q1)]
              exact R4.ex _ _ h
            · obtain ⟨y1, y2, y3⟩ := R4.it j y hy
              refine ⟨y1, y2, ?_⟩
              rw [edges_snoc1 hr1 hone]
              show upd H4 r _ y = some (.lst ((adj (edges (rs.take i) ++ [(a, c)]) ((j : Nat) : Int)).map V.int))
              rw [adj_snoc]
              by_cases hj : j = a.toNat
              · subst hj
                rw [hr] at hy
                cases hy
                rw [upd_same, if_pos en.symm, List.map_append]
                rfl
              · have nyr : y ≠ r := fun z => by
                  subst z
                  exact hj ((List.getElem?_inj (List.getElem?_eq_some_iff.mp hy).1 R4.nd).mp (hy.trans hr.symm))
                rw [upd_ne nyr, if_neg (by omega), List.append_nil]
                exact y3
        · have hone' : inS sh OSH = false := by simpa using hone
          rw [hone']
          rw [if_neg (by decide)]
          refine ⟨⟨some x, rfl⟩, ?_⟩
          rw [edges_snoc0 hr1 hone']
          exact R2
      · subst ho
        refine ⟨.ref Dl, rfl, ?_⟩
        have lr : us.length = rs.length := htd.len
        rw [lr, List.take_length] at R'
        refine q (.ref Dl) (rst B H H') H' (rst_step e R'.ex) ?_
        show Dd K _ _ (adjD (edges rs) ((n : Int)).toNat)
        refine R'.data e hlen (by omega) fun i _ => ?_
        have := adj_len (edges rs) ((i : Nat) : Int)
        have h2 := edges_len rs
        omega
end
end K50

namespace K50
open PySem PySem.Spec PyProof.Rows L2 Evl Ex Dx
open PySem.PyData (strOk)

section
variable {P : Program} {w : World} {K : PySem.W.Frag} {mg : Str → Option Value} {base : Heap} {f : Addr} {fd : FuncData}

/-! ### kinds_behind -/
structure KS (H0 H : Hp) (fa wa : Addr) (S Wt : List Int) : Prop where
  ex : Ex H0 H
  f0 : H0 fa = none
  w0 : H0 wa = none
  ne : fa ≠ wa
  hf : H fa = some (.lst (S.map V.int))
  hw : H wa = some (.lst (Wt.map V.int))
theorem KS.mono {H0 H H' : Hp} {fa wa : Addr} {S Wt : List Int} (R : KS H0 H fa wa S Wt) (e : Ex H H') : KS H0 H' fa wa S Wt := ⟨R.ex.trans e, R.f0, R.w0, R.ne, e _ _ R.hf, e _ _ R.hw⟩
theorem KS.setF {H0 H : Hp} {fa wa : Addr} {S Wt S' : List Int} (R : KS H0 H fa wa S Wt) : KS H0 (upd H fa (.lst (S'.map V.int))) fa wa S' Wt :=
  ⟨fun x o h => by rw [upd_ne (ne_of_none h R.f0)]; exact R.ex _ _ h, R.f0, R.w0, R.ne, upd_same, by rw [upd_ne (Ne.symm R.ne)]; exact R.hw⟩
theorem KS.setW {H0 H : Hp} {fa wa : Addr} {S Wt W' : List Int} (R : KS H0 H fa wa S Wt) : KS H0 (upd H wa (.lst (W'.map V.int))) fa wa S W' :=
  ⟨fun x o h => by rw [upd_ne (ne_of_none h R.w0)]; exact R.ex _ _ h, R.f0, R.w0, R.ne, by rw [upd_ne R.ne]; exact R.hf, upd_same⟩
def kjF : List Int → List Int → List Int → List Int × List Int
  | [], S, W => (S, W)
  | x :: rest, S, W => if S.contains x = true then kjF rest S W else kjF rest (S ++ [x]) (W ++ [x])
theorem kj_in {x : Int} {rest S W : List Int} (h : x ∈ S) : kjF (x :: rest) S W = kjF rest S W := by
  show (if S.contains x = true then kjF rest S W else kjF rest (S ++ [x]) (W ++ [x])) = _
  rw [if_pos (List.contains_iff_mem.mpr h)]
theorem kj_out {x : Int} {rest S W : List Int} (h : x ∉ S) : kjF (x :: rest) S W = kjF rest (S ++ [x]) (W ++ [x]) := by
  show (if S.contains x = true then kjF rest S W else kjF rest (S ++ [x]) (W ++ [x])) = _
  rw [if_neg fun z => h (List.contains_iff_mem.mp z)]
/-- the list that a walk ends with -/
inductive KRun (E : List (Int × Int)) : List Int → List Int → List Int → Prop
  | done (S : List Int) : KRun E S [] S
  | step {S W R : List Int} {a : Int} (h : KRun E (kjF (adj E a) S W).1 (kjF (adj E a) S W).2 R) : KRun E S (W ++ [a]) R
theorem snoc_inj {α : Type} {W W' : List α} {a a' : α} (h : W ++ [a] = W' ++ [a']) : W = W' ∧ a = a' := by
  have h1 := List.append_inj' h rfl
  exact ⟨h1.1, by simpa using h1.2⟩
theorem KRun.uniq {E : List (Int × Int)} {S W R R' : List Int} (h : KRun E S W R) : KRun E S W R' → R = R' := by
  induction h with
  | done S =>
    intro g
    generalize hw : ([] : List Int) = W0 at g
    cases g with
    | done => rfl
    | step g => simp at hw
  | step h ih =>
    intro g
    rename_i S0 W0 R0 a0
    generalize hw : W0 ++ [a0] = W1 at g
    cases g with
    | done => simp at hw
    | step g =>
      obtain ⟨rfl, rfl⟩ := snoc_inj hw
      exact ih g
structure MI (E : List (Int × Int)) (n : Nat) (k : Int) (S Wt : List Int) : Prop where
  run : ∀ R, KRun E S Wt R → KRun E [] [k] R
  sound : ∀ x ∈ S, Gm.Rch E k x
  nd : S.Nodup
  wt : ∀ x ∈ Wt, x = k ∨ x ∈ S
  cl : ∀ a b, (a, b) ∈ E → (a = k ∨ a ∈ S) → b ∈ S ∨ a ∈ Wt
/-- within the turn for at, rest: the steps from it that are still to look at -/
structure MJ (E : List (Int × Int)) (n : Nat) (k at' : Int) (rest S Wt : List Int) : Prop where
  run : ∀ R, KRun E (kjF rest S Wt).1 (kjF rest S Wt).2 R → KRun E [] [k] R
  sound : ∀ x ∈ S, Gm.Rch E k x
  nd : S.Nodup
  wt : ∀ x ∈ Wt, x = k ∨ x ∈ S
  at_ : at' = k ∨ at' ∈ S
  cl : ∀ a b, (a, b) ∈ E → (a = k ∨ a ∈ S) → b ∈ S ∨ a ∈ Wt ∨ (a = at' ∧ b ∈ rest)
section
variable {E : List (Int × Int)} {n : Nat} {k x at' : Int} {S Wt rest : List Int}
theorem MI.len (hE : ∀ a b, (a, b) ∈ E → 0 ≤ b ∧ b < (n : Int)) (h : MI E n k S Wt) : S.length ≤ n := Gm.pig n S h.nd fun y hy => by
  have r := h.sound y hy
  cases r with
  | one e => exact hE _ _ e
  | more _ e => exact hE _ _ e
theorem MJ.len (hE : ∀ a b, (a, b) ∈ E → 0 ≤ b ∧ b < (n : Int)) (h : MJ E n k at' rest S Wt) : S.length ≤ n := Gm.pig n S h.nd fun y hy => by
  have r := h.sound y hy
  cases r with
  | one e => exact hE _ _ e
  | more _ e => exact hE _ _ e
theorem MI.start : MI E n k [] [k] := ⟨fun R h => h, fun _ h => (nomatch h), List.nodup_nil, fun x hx => .inl (List.mem_singleton.mp hx), fun a b _ h => .inr (by
  rcases h with rfl | h
  · exact List.mem_singleton.mpr rfl
  · cases h)⟩
theorem MI.pop (h : MI E n k S (Wt ++ [at'])) : MJ E n k at' (adj E at') S Wt := ⟨fun R h' => h.run R (.step h'), h.sound, h.nd, fun x hx => h.wt x (List.mem_append_left _ hx), h.wt at' (List.mem_append_right _ (List.mem_singleton.mpr rfl)), fun a b hE ha => by
  rcases h.cl a b hE ha with h1 | h1
  · exact .inl h1
  · rcases List.mem_append.mp h1 with h2 | h2
    · exact .inr (.inl h2)
    · obtain rfl := List.mem_singleton.mp h2
      exact .inr (.inr ⟨rfl, mem_adj.mpr hE⟩)⟩
theorem MJ.skip (h : MJ E n k at' (x :: rest) S Wt) (hx : x ∈ S) : MJ E n k at' rest S Wt := ⟨fun R h' => h.run R (by rw [kj_in hx]; exact h'), h.sound, h.nd, h.wt, h.at_, fun a b hE ha => by
  rcases h.cl a b hE ha with h1 | h1 | ⟨h1, h2⟩
  · exact .inl h1
  · exact .inr (.inl h1)
  · rcases List.mem_cons.mp h2 with rfl | h3
    · exact .inl hx
    · exact .inr (.inr ⟨h1, h3⟩)⟩
theorem MJ.add (h : MJ E n k at' (x :: rest) S Wt) (hE : (at', x) ∈ E) (hx : x ∉ S) : MJ E n k at' rest (S ++ [x]) (Wt ++ [x]) := by
  have hr : Gm.Rch E k x := by
    rcases h.at_ with rfl | ha
    · exact .one hE
    · exact .more (h.sound _ ha) hE
  refine ⟨fun R h' => h.run R (by rw [kj_out hx]; exact h'), fun y hy => ?_, ?_, fun y hy => ?_, ?_, fun a b hab ha => ?_⟩
  · rcases List.mem_append.mp hy with h1 | h1
    · exact h.sound y h1
    · rw [List.mem_singleton.mp h1]
      exact hr
  · rw [List.nodup_append]
    refine ⟨h.nd, by simp, fun a ha b hb z => ?_⟩
    rw [List.mem_singleton.mp hb] at z
    exact hx (z ▸ ha)
  · rcases List.mem_append.mp hy with h1 | h1
    · rcases h.wt y h1 with h2 | h2
      · exact .inl h2
      · exact .inr (List.mem_append_left _ h2)
    · exact .inr (List.mem_append_right _ h1)
  · rcases h.at_ with h1 | h1
    · exact .inl h1
    · exact .inr (List.mem_append_left _ h1)
  · have old : (a = k ∨ a ∈ S) → b ∈ S ++ [x] ∨ a ∈ Wt ++ [x] ∨ (a = at' ∧ b ∈ rest) := fun ha' => by
      rcases h.cl a b hab ha' with h1 | h1 | ⟨h1, h2⟩
      · exact .inl (List.mem_append_left _ h1)
      · exact .inr (.inl (List.mem_append_left _ h1))
      · rcases List.mem_cons.mp h2 with rfl | h3
        · exact .inl (List.mem_append_right _ (List.mem_singleton.mpr rfl))
        · exact .inr (.inr ⟨h1, h3⟩)
    rcases ha with ha | ha
    · exact old (.inl ha)
    · rcases List.mem_append.mp ha with h1 | h1
      · exact old (.inr h1)
      · exact .inr (.inl (List.mem_append_right _ h1))
theorem MJ.done (h : MJ E n k at' [] S Wt) : MI E n k S Wt := ⟨fun R h' => h.run R h', h.sound, h.nd, h.wt, fun a b hE ha => by
  rcases h.cl a b hE ha with h1 | h1 | ⟨_, h2⟩
  · exact .inl h1
  · exact .inr h1
  · cases h2⟩
theorem MI.fin (h : MI E n k S []) (y : Int) : y ∈ S ↔ Gm.Rch E k y := ⟨h.sound y, fun r => Gm.closed_rch (fun a b hE ha => by
  rcases h.cl a b hE ha with h1 | h1
  · exact h1
  · cases h1) r⟩
end
def spKB (K : PySem.W.Frag) : Sp := fun vs H Q _ => ∃ (B : Hp) (E : List (Int × Int)) (n k : Nat) (v0 : V), Ex B H ∧ vs = [v0, .int (k : Nat)] ∧ Dd K B v0 (adjD E n) ∧ (∀ a b, (a, b) ∈ E → 0 ≤ b ∧ b < (n : Int)) ∧ k < n ∧ n ≤ 40 ∧ E.length ≤ 100 ∧
  ∀ v B' H' (S : List Int), Step (fun _ => False) B H B' H' → Dd K B' v (.list (S.map .int)) → (∀ x, x ∈ S ↔ Gm.Rch E (k : Nat) x) → KRun E [] [((k : Nat) : Int)] S → S.length ≤ n → Q v H'
theorem snoc_of {α : Type} {l : List α} (h : l ≠ []) : ∃ l' x, l = l' ++ [x] := ⟨l.dropLast, l.getLast h, (List.dropLast_concat_getLast h).symm⟩

abbrev s_kinds_behind : Stmt := topS 22
abbrev N_kinds_behind : List Str := ["steps", "kind", "found", "waiting", "at", "one"]
theorem sc_kinds_behind : FnScope N_kinds_behind ["steps", "kind"] (defScope s_kinds_behind) := ⟨rfl, rfl, rfl, by decide +kernel, rfl, by decide +kernel, by decide +kernel⟩
theorem ok_kinds_behind (F : Fun K "kinds_behind" "kinds_behind" s_kinds_behind f fd) (T : TC K mg) : FnOk P w K mg base CX0 1 f fd ["steps", "kind"] (spKB K) := by
  refine F.ok sc_kinds_behind (fun vs H Q E h => ?_) (fun cdv A outer s H vs Q E hr h => ?_)
  · obtain ⟨B, E, n, k, v0, e, rfl, _⟩ := h
    rfl
  · obtain ⟨B, E, n, k, v0, e, rfl, hv, hE, hk, hn, hlen, q⟩ := h
    obtain ⟨a0, xs0, rfl, h0, l0, d0⟩ := dd_lst hv
    refine ⟨_, (pss_cons (ps_set (i := 2) sc_kinds_behind.nd rfl (Or.inl rfl) (pe_lst pa_nil))
      (pss_cons (ps_set (i := 3) sc_kinds_behind.nd rfl (Or.inl rfl) (pe_lst (pa_cons (pv 1) pa_nil)))
      (pss_cons (ps_while PassesOwn.never (pt_tru K (pv 3)) (pss_cons (ps_set (i := 4) sc_kinds_behind.nd rfl (Or.inl rfl) (pe_bm0 PySem.F.plainAttrs_list PySem.F.slot_list_pop PySem.F.type_list_pop mt_pop (pv 3)))
      (pss_one (ps_for PassesOwn.never rfl (pi_seqK K (pe_ix (ix_seqK K) (pv 0) (pv 4) (fun _ _ => rfl))) (pg_name (i := 5) sc_kinds_behind.nd rfl (Or.inl rfl)) (pss_one (ps_if (pt_cmpR (op_ninK K) (pv 5) (pv 2) (by rfl)) (pss_cons (ps_expr (pe_bm PySem.F.plainAttrs_list PySem.F.slot_list_append PySem.F.type_list_append mt_append (pv 2) (pa_cons (pv 5) pa_nil)))
      (pss_one (ps_expr (pe_bm PySem.F.plainAttrs_list PySem.F.slot_list_append PySem.F.type_list_append mt_append (pv 3) (pa_cons (pv 5) pa_nil))))) pss_nil))))))
      (pss_one (ps_ret (pv 2)))))), ?_⟩
    refine ⟨Nat.zero_le _, fun fa hfa => ?_⟩
    refine ⟨.int (k : Nat), rfl, by show 1 ≤ sizeLine; decide, fun wa hwa => ?_⟩
    have nfw : fa ≠ wa := fun z => by rw [← z, upd_same] at hwa; cases hwa
    have w0 : H wa = none := by rw [upd_ne (Ne.symm nfw)] at hwa; exact hwa
    have K0 : KS H (upd (upd H fa (.lst [])) wa (.lst [.int (k : Nat)])) fa wa [] [(k : Int)] := ⟨fun x o h => by rw [upd_ne (ne_of_none h w0), upd_ne (ne_of_none h hfa)]; exact h, hfa, w0, nfw, by rw [upd_ne nfw, upd_same]; rfl, upd_same⟩
    refine ⟨fun m σ' H' => ∃ o1 o2 S Wt, σ' = [some (.ref a0), some (.int (k : Nat)), some (.ref fa), some (.ref wa), o1, o2] ∧ KS H H' fa wa S Wt ∧ MI E n (k : Nat) S Wt ∧ m = 2 * (n - S.length) + Wt.length ∧ m ≤ 100, ⟨_, none, none, [], [(k : Int)], rfl, K0, MI.start, rfl, by show 2 * (n - 0) + 1 ≤ 100; omega⟩, ?_⟩
    rintro m σ' H' ⟨o1, o2, S, Wt, rfl, R, M, rfl, hm0⟩
    have hSl := M.len hE
    have hWd : ∀ H2, Ex H' H2 → True := fun _ _ => trivial
    have tw : ETt Fm.pure (fun σ H Q => tVar 3 σ H fun x H' => ∃ k, TruV K x H' k ∧ Q k H') [some (.ref a0), some (.int (k : Nat)), some (.ref fa), some (.ref wa), o1, o2] H' (!Wt.isEmpty) := by
      intro B1 e1 H1 j1 Q1 q1
      refine ⟨.ref wa, rfl, !Wt.isEmpty, .inl ⟨Wt.map V.int, sq_of (j1.e _ _ (e1 _ _ R.hw)), ?_⟩, q1 B1 H1 (Step.refl j1.e) j1⟩
      cases Wt <;> rfl
    refine tw H' (Ex.refl H') H' okH _ fun B2 H2 s2 j2 => ?_
    have R2 := R.mono s2.ex
    by_cases hW : Wt = []
    · subst hW
      rw [show (!([] : List Int).isEmpty) = false from rfl, if_neg (by decide)]
      refine ⟨.ref fa, rfl, ?_⟩
      refine q (.ref fa) (rst B H H2) H2 S (rst_step e R2.ex) (dd_ints ((rst_new R2.f0).trans R2.hf) (by omega)) M.fin (M.run S (.done S)) hSl
    · obtain ⟨W', at', rfl⟩ := snoc_of hW
      have hb : (!(W' ++ [at']).isEmpty) = true := by
        cases W' <;> rfl
      rw [hb, if_pos rfl]
      refine ⟨_, fun σ2 H3 q => q, ?_⟩
      refine ⟨.ref wa, rfl, .inl ⟨rfl, _, sq_of R2.hw⟩, ?_⟩
      refine ⟨wa, _, .int at', rfl, rfl, R2.hw, by rw [List.map_append, List.length_append]; simp, ?_⟩
      have R3 : KS H (upd H2 wa (.lst ((W'.map V.int)))) fa wa S W' := R2.setW
      have ed : ((W' ++ [at']).map V.int).dropLast = W'.map V.int := by rw [List.map_append, List.map_singleton, List.dropLast_concat]
      rw [ed]
      have MJ0 := M.pop
      have hat : 0 ≤ at' ∧ at' < (n : Int) := by
        rcases MJ0.at_ with h | h
        · omega
        · have r := M.sound _ h
          cases r with
          | one e => exact hE _ _ e
          | more _ e => exact hE _ _ e
      have en : ((at'.toNat : Nat) : Int) = at' := by omega
      have hdat : ((List.range n).map fun k => PyData.list ((adj E (k : Nat)).map .int))[at'.toNat]? = some (.list ((adj E at').map .int)) := by
        rw [List.getElem?_map, List.getElem?_range (by omega), Option.map_some, en]
      obtain ⟨vl, hvl, hdl⟩ := d0.get hdat
      obtain ⟨l, ys, rfl, hl, _, dl⟩ := dd_lst hdl
      obtain rfl := ints_dd dl
      have hSq0 : ∀ H3, Ex H H3 → SqL K H3 a0 xs0 := fun H3 e3 => ex_l (e.trans e3) (sq_of h0)
      have hSql : ∀ H3, Ex H H3 → SqL K H3 l ((adj E at').map V.int) := fun H3 e3 => ex_l (e.trans e3) (sq_of hl)
      refine ⟨.ref a0, rfl, .int at', rfl, .inl ⟨a0, xs0, at', .ref l, rfl, rfl, hSq0 _ R3.ex, at_of en.symm hvl, ?_⟩⟩
      refine ⟨l, rfl, .inl ⟨⟨_, hSql _ R3.ex⟩, for_list (K := K) (xs := (adj E at').map V.int) (fun i σ' H' => ∃ o S' Wt', σ' = [some (.ref a0), some (.int (k : Nat)), some (.ref fa), some (.ref wa), some (.int at'), o] ∧ KS H H' fa wa S' Wt' ∧ MJ E n (k : Nat) at' ((adj E at').drop i) S' Wt' ∧ 2 * (n - S'.length) + Wt'.length < 2 * (n - S.length) + (W' ++ [at']).length) ⟨o2, S, W', rfl, R3, MJ0, by rw [List.length_append]; show _ < _ + (_ + 1); omega⟩ (fun i σ' H' _ ⟨_, _, _, _, R', _⟩ => hSql _ R'.ex) (fun i x σ' H' hx ⟨o, S', Wt', ho, R', M', hm⟩ => ?_) (fun σ' H' ⟨o, S', Wt', ho, R', M', hm⟩ => ?_)⟩⟩
      · subst ho
        obtain ⟨y, hy, rfl⟩ : ∃ y, (adj E at')[i]? = some y ∧ V.int y = x := by
          rw [List.getElem?_map] at hx
          cases hh : (adj E at')[i]? with
          | none => rw [hh] at hx; cases hx
          | some y => rw [hh] at hx; exact ⟨y, rfl, by simpa using hx⟩
        have hdrop : (adj E at').drop i = y :: (adj E at').drop (i + 1) := by
          obtain ⟨hlt, he⟩ := List.getElem?_eq_some_iff.mp hy
          rw [List.drop_eq_getElem_cons hlt, he]
        rw [hdrop] at M'
        have hSl' := M'.len hE
        have hyE : (at', y) ∈ E := mem_adj.mp (List.mem_of_getElem? hy)
        have fd : Dd K H' (.ref fa) (.list (S'.map .int)) := dd_ints R'.hf (by omega)
        have tst : ETt Fm.pure (tTest (tOp (rIn K true) (tVar 5) (tVar 2))) [some (.ref a0), some (.int (k : Nat)), some (.ref fa), some (.ref wa), some (.int at'), some (.int y)] H' (!S'.contains y) := et_is (et_cmp (ed_op (ed_var rfl (.int y)) (ed_var rfl fd) (rd_notin (.inl rfl) rfl (flatI _)))) (congrArg Bool.not (inD_int _ _))
        refine tst H' (Ex.refl H') H' okH _ fun B4 H4 s4 j4 => ?_
        have R4 := R'.mono s4.ex
        by_cases hc : S'.contains y = true
        · rw [hc, show (!true) = false from rfl, if_neg (by decide)]
          exact ⟨_, S', Wt', rfl, R4, M'.skip (List.contains_iff_mem.mp hc), hm⟩
        · have hc' : S'.contains y = false := by simpa using hc
          have hny : y ∉ S' := fun z => hc (List.contains_iff_mem.mpr z)
          rw [hc', show (!false) = true from rfl, if_pos rfl]
          have M5 := M'.add hyE hny
          have hSl5 := M5.len hE
          rw [List.length_append, List.length_singleton] at hSl5
          refine ⟨.ref fa, rfl, .inl ⟨rfl, _, sq_of R4.hf⟩, .int y, rfl, fa, _, .int y, rfl, rfl, R4.hf, by rw [List.length_map, sizeLine_eq]; omega, ?_⟩
          have e5 : S'.map V.int ++ [V.int y] = (S' ++ [y]).map V.int := by rw [List.map_append]; rfl
          rw [e5]
          have R5 : KS H (upd H4 fa (.lst ((S' ++ [y]).map V.int))) fa wa (S' ++ [y]) Wt' := R4.setF
          refine ⟨.ref wa, rfl, .inl ⟨rfl, _, sq_of R5.hw⟩, .int y, rfl, wa, _, .int y, rfl, rfl, R5.hw, by rw [List.length_map, sizeLine_eq]; omega, ?_⟩
          have e6 : Wt'.map V.int ++ [V.int y] = (Wt' ++ [y]).map V.int := by rw [List.map_append]; rfl
          rw [e6]
          refine ⟨_, S' ++ [y], Wt' ++ [y], rfl, R5.setW, M5, ?_⟩
          rw [List.length_append, List.length_append, List.length_singleton]
          omega
      · subst ho
        have M6 : MI E n (k : Nat) S' Wt' := by
          rw [List.length_map, List.drop_length] at M'
          exact M'.done
        exact ⟨2 * (n - S'.length) + Wt'.length, hm, _, _, S', Wt', rfl, R', M6, rfl, by omega⟩
end
end K50

namespace K50
open PySem PySem.Spec PyProof.Rows L2 Evl Ex Dx
open PySem.PyData (strOk)

section
variable {P : Program} {w : World} {K : PySem.W.Frag} {mg : Str → Option Value} {base : Heap} {f : Addr} {fd : FuncData}

def spEK (K : PySem.W.Frag) : Sp := fun vs H Q _ => ∃ (B : Hp) (E : List (Int × Int)) (n : Nat) (v0 : V), Ex B H ∧ vs = [v0] ∧ Dd K B v0 (adjD E n) ∧ (∀ a b, (a, b) ∈ E → 0 ≤ b ∧ b < (n : Int)) ∧ n ≤ 40 ∧ E.length ≤ 100 ∧
  ∀ v B' H', Step (fun _ => False) B H B' H' → Dd K B' v (optD (backK E n)) → Q v H'
theorem lenAdj (E : List (Int × Int)) (n : Nat) : lenD (adjD E n) = (n : Nat) := by
  show ((((List.range n).map fun k => PyData.list ((adj E (k : Nat)).map .int)).length : Nat) : Int) = _
  rw [List.length_map, List.length_range]

abbrev s_endless_kind : Stmt := topS 21
abbrev N_endless_kind : List Str := ["steps", "kind"]
theorem sc_endless_kind : FnScope N_endless_kind ["steps"] (defScope s_endless_kind) := ⟨rfl, rfl, rfl, by decide +kernel, rfl, by decide +kernel, by decide +kernel⟩
theorem ok_endless_kind (F : Fun K "endless_kind" "endless_kind" s_endless_kind f fd) (T : TC K mg) (C_kinds_behind : Callee P w K mg base "kinds_behind" 1 ["steps", "kind"] (spKB K)) : FnOk P w K mg base CX0 2 f fd ["steps"] (spEK K) := by
  refine F.ok sc_endless_kind (fun vs H Q E h => ?_) (fun cdv A outer s H vs Q E hr h => ?_)
  · obtain ⟨B, E, n, v0, e, rfl, _⟩ := h
    rfl
  · obtain ⟨B, ED_, n, vs, e, rfl, hs, hE, hn, hEl, q⟩ := h
    refine ⟨_, (pss_cons (ps_for PassesOwn.never rfl (pi_range1 rfl T.m_range (pa_cons (pe_callB (call_lenK K) (by rfl) T.m_len bt_len (pa_cons (pv 0) pa_nil)) pa_nil)) (pg_name (i := 1) sc_endless_kind.nd rfl (Or.inl rfl)) (pss_one (ps_if (pt_cmpR (op_inK K) (pv 1) (pe_callC C_kinds_behind (hr.mono (by decide)) rfl pass0 (pa_cons (pv 0) (pa_cons (pv 1) pa_nil))) (by rfl)) (pss_one (ps_ret (pv 1))) pss_nil)))
      (pss_one (ps_ret pe_non))), ?_⟩
    have a : At Fm.pure B H B H := At.start (Ok.any e)
    have key : ∀ k : Nat, (Gm.turns ED_ (k : Int) (n + 1)).contains (k : Int) = true ↔ Gm.Rch ED_ k k := fun k => by
      rw [List.contains_iff_mem]
      exact Gm.turns_all hE k
    refine qd_forR (K := K) (n := (n : Nat)) a (eds_cons (ed_is (ev_cb (eds_cons (ed_var rfl hs) eds_nil) (rc_len (x := adjD ED_ n) rfl)) (congrArg PyData.int (lenAdj ED_ n))) eds_nil) ⟨by omega, by omega⟩ (fun i σ' B' => (∃ o, σ' = [some vs, o]) ∧ ∀ k : Nat, k < i → (Gm.turns ED_ (k : Int) (n + 1)).contains (k : Int) = false) (fun B1 _ => ⟨⟨none, rfl⟩, fun k hk => absurd hk (Nat.not_lt_zero k)⟩) ?_ ?_
    · rintro Bb i σ' B2 H2 eb hi e2 a2 ⟨⟨o, rfl⟩, hno⟩
      have hi' : i < n := by omega
      have cb : EV Fm.pure (tCall (spKB K) [] E0 (tCons (tVar 0) (tCons (tVar 1) tNil))) [some vs, some (.int (i : Nat))] B2 (fun v B => ∃ S : List Int, Dd K B v (.list (S.map .int)) ∧ ∀ x, x ∈ S ↔ Gm.Rch ED_ (i : Nat) x) := fun B3 e3 H3 j3 Q3 q3 =>
        ⟨vs, rfl, .int (i : Nat), rfl, B3, ED_, n, i, vs, j3.e, rfl, hs.up ((eb.trans e2).trans e3), hE, hi', hn, hEl, fun v B' H' S s g hS _ _ => q3 v B' H' s.pure (j3.pure s) ⟨S, g, hS⟩⟩
      refine sv_if (b := (Gm.turns ED_ (i : Int) (n + 1)).contains (i : Int)) a2 (et_cmp (K := K) (ev_op (P := DD K (.int (i : Nat))) (ed_var rfl (.int (i : Nat))) cb upc_dd ?_)) (fun hb B4 H4 e4 a4 => ?_) (fun hb B4 H4 e4 a4 => ?_)
      · intro B3 e3 H3 u v j3 hu ⟨S, hS, hm⟩ Q3 q3
        refine rd_isin (F := Fm.pure) (K := K) (B := B3) (x := .int (i : Nat)) (y := .list (S.map .int)) (.inl rfl) rfl (flatI _) B3 (Ex.refl B3) H3 u v j3 hu hS Q3 fun w B' H' s j g => q3 w B' H' s j ?_
        rw [inD_int] at g
        have eb : S.contains ((i : Nat) : Int) = (Gm.turns ED_ (i : Int) (n + 1)).contains (i : Int) := by
          rw [Bool.eq_iff_iff, key, List.contains_iff_mem]
          exact hm _
        rw [eb] at g
        exact g
      · refine sv_ret (P := DD K (.int (i : Nat))) a4 (ed_var rfl (.int _)) fun v5 B5 H5 e5 a5 h5 => q _ B5 H5 a5.st ?_
        rw [backK_some hi' hb hno]
        exact h5
      · refine ⟨B4, e2.trans e4, a4, ⟨_, rfl⟩, fun k hk => ?_⟩
        rcases Nat.lt_succ_iff_lt_or_eq.mp hk with h | rfl
        · exact hno k h
        · exact hb
    · rintro σ' B2 H2 e2 a2 ⟨⟨o, rfl⟩, hno⟩
      refine sv_ret (P := DD K .none) a2 ed_non fun v5 B5 H5 e5 a5 h5 => q _ B5 H5 a5.st ?_
      rw [backK_none fun k hk => hno k (by show k < ((n : Nat) : Int).toNat; omega)]
      exact h5
theorem ev_ek {F : Fm} {σ : L2.St} {B : Hp} {te : TE} {E : List (Int × Int)} {n : Nat} (h : ED F K te σ B (adjD E n)) (hE : ∀ a b, (a, b) ∈ E → 0 ≤ b ∧ b < (n : Int)) (hn : n ≤ 40) (hl : E.length ≤ 100) : ED F K (tCall (spEK K) [] E0 (tCons te tNil)) σ B (optD (backK E n)) := fun B1 e0 H j Q q =>
  h B1 e0 H j _ fun v B2 H2 s2 j2 g => ⟨B2, E, n, v, j2.e, rfl, g, hE, hn, hl, fun v' B' H' s g' => q v' B' H' (s2.trans s.pure) (j2.pure s) g'⟩

/-! ### Pairs -/
structure TP (P : Program) (w : World) (K : PySem.W.Frag) (mg : Str → Option Value) (base : Heap) (c0 c1 c2 CP : Addr) : Prop extends TC K mg where
  x_InvalidNumber : ExcAt P w K mg base "InvalidNumber" "value" c0
  x_InvalidRules : ExcAt P w K mg base "InvalidRules" "value" c1
  x_Endless : ExcAt P w K mg base "Endless" "kind" c2
  g_Pairs : mg "Pairs" = some (.ref CP)
  cl : Cls K CP
  nk : NoAttr K CP "kinds"
  nr : NoAttr K CP "rules"
  ca : PySem.W.findIn K (.ref CP) "__class__" = some (some (.builtin "object.__class__"))
  sg : PySem.W.specialIn K (.builtin "object.__class__") "__get__" = some (some (.builtin "getset_descriptor.__get__"))
  tk : PySem.W.takesIn K (.builtin "object.__class__") = some true
  mo : PySem.W.mroIn K CP (.type "object") = some true
  kt1 : PySem.W.kitOne K (.ref CP) (.ref CP) = some true
  kt2 : PySem.W.kitOne K (.type "tuple") (.ref CP) = some false
  m00 : PySem.W.exmOne K (.ref c0) (.ref c0) = some true
  m10 : PySem.W.exmOne K (.ref c1) (.ref c0) = some false
  m11 : PySem.W.exmOne K (.ref c1) (.ref c1) = some true
  m20 : PySem.W.exmOne K (.ref c2) (.ref c0) = some false
  m21 : PySem.W.exmOne K (.ref c2) (.ref c1) = some false
  m22 : PySem.W.exmOne K (.ref c2) (.ref c2) = some true
/-- the frame of an object that stands just so -/
theorem ob_lv {x a : Addr} {o : HO} {H : Hp} (h : H x = some o) (m : a = x) (ho : nT o) : Liv H a := ⟨o, by rw [m]; exact h, ho⟩
theorem ob_fr {x a : Addr} {o o' : HO} {H : Hp} (h : H x = some o) (n : ¬ a = x) : upd H a o' x = some o := by
  rw [upd_ne (fun z => n z.symm)]
  exact h
def Fm.ob (x : Addr) (o : HO) (ho : nT o := by trivial) : Fm := ⟨fun a => a = x, fun H => H x = some o, fun _ _ e h => e _ _ h, fun _ _ h m => ob_lv h m ho, fun _ _ _ h n => ob_fr h n⟩
theorem ob_set {x : Addr} {o o' : HO} {B H : Hp} {ho : nT o} (k : Ok (Fm.ob x o ho) B H) (ho' : nT o' := by trivial) : Ok (Fm.ob x o' ho') B (upd H x o') ∧ Step (fun a => a = x) B H B (upd H x o') := by
  have bx : B x = none := k.av x rfl
  have hb : Ex B (upd H x o') := fun a u h => by
    rw [upd_ne (ne_of_none h bx)]
    exact k.e a u h
  exact ⟨⟨hb, upd_same, fun a m => by rw [show a = x from m]; exact bx⟩, Ex.refl B, hb, fun a u n h => by rw [upd_ne n]; exact h, fun a h _ => h, fun a n => by
    by_cases e : a = x
    · rw [e, upd_same]
      exact fun z => nomatch z
    · rw [upd_ne e]
      exact n, fun a n => by
    by_cases e : a = x
    · rw [e]
      exact liv_set ho'
    · exact n.upd e⟩
theorem rc_tupT {F : Fm} {B : Hp} {ds : List PyData} : RDc F K (fun xs H Q => ∃ p ys, xs = [.ref p] ∧ ((SqL K H p ys ∧ ∀ l, H l = none → Q (.ref l) (upd H l (.tup ys))) ∨ (SqT K H p ys ∧ Q (.ref p) H))) B [.tuple ds] (.tuple ds) := fun B1 e0 H us jj hu Q q => by
  obtain ⟨v, rfl, hv⟩ := arg1 hu
  obtain ⟨a, xs, rfl, h1, l1, g1⟩ := dd_tup hv
  exact ⟨a, xs, rfl, .inr ⟨ex_t jj.e h1, q _ B1 H (Step.refl jj.e) jj hv⟩⟩
theorem rc_tupA {F : Fm} {B : Hp} {d : PyData} (h : isTupD d = true) : RDc F K (fun xs H Q => ∃ p ys, xs = [.ref p] ∧ ((SqL K H p ys ∧ ∀ l, H l = none → Q (.ref l) (upd H l (.tup ys))) ∨ (SqT K H p ys ∧ Q (.ref p) H))) B [d] d := by
  obtain ⟨ds, rfl⟩ := tup_is h
  exact rc_tupT
theorem rule_tup {d : PyData} {n : Int} (h : ruleD d n = true) : isTupD d = true := by
  obtain ⟨a', s', p', ps', rfl, _⟩ := ruleD_is h
  rfl
theorem rc_tupL {F : Fm} {B : Hp} {ds : List PyData} : RDc F K (fun xs H Q => ∃ p ys, xs = [.ref p] ∧ ((SqL K H p ys ∧ ∀ l, H l = none → Q (.ref l) (upd H l (.tup ys))) ∨ (SqT K H p ys ∧ Q (.ref p) H))) B [.list ds] (.tuple ds) := fun B1 e0 H us jj hu Q q => by
  obtain ⟨v, rfl, hv⟩ := arg1 hu
  obtain ⟨a, xs, rfl, h1, l1, g1⟩ := dd_lst hv
  exact ⟨a, xs, rfl, .inl ⟨sq_of (jj.e _ _ h1), fun l hl => q _ _ _ (Step.alloc jj.e hl) (jj.alloc hl) (.tup (ta_of upd_same) l1 (g1.up (Ex.new (fresh_back jj.e hl))))⟩⟩
theorem rc_lstT {F : Fm} {B : Hp} {ds : List PyData} : RDc F K (fun xs H Q => ∃ p ys, xs = [.ref p] ∧ (SqL K H p ys ∨ SqT K H p ys) ∧ ∀ l, H l = none → Q (.ref l) (upd H l (.lst ys))) B [.tuple ds] (.list ds) := fun B1 e0 H us jj hu Q q => by
  obtain ⟨v, rfl, hv⟩ := arg1 hu
  obtain ⟨a, xs, rfl, h1, l1, g1⟩ := dd_tup hv
  exact ⟨a, xs, rfl, .inr (ex_t jj.e h1), fun l hl => q _ _ _ (Step.alloc jj.e hl) (jj.alloc hl) (.lst upd_same l1 (g1.up (Ex.new (fresh_back jj.e hl))))⟩
theorem call_tuple_ofK {X : Cx} (K : PySem.W.Frag) (hK : X.K = K := by rfl) : CallR X (.type "tuple") (fun xs H Q => ∃ p ys, xs = [.ref p] ∧ ((SqL K H p ys ∧ ∀ l, H l = none → Q (.ref l) (upd H l (.tup ys))) ∨ (SqT K H p ys ∧ Q (.ref p) H))) := by subst hK; exact call_tuple_of
theorem call_list_ofK {X : Cx} (K : PySem.W.Frag) (hK : X.K = K := by rfl) : CallR X (.type "list") (fun xs H Q => ∃ p ys, xs = [.ref p] ∧ (SqL K H p ys ∨ SqT K H p ys) ∧ ∀ l, H l = none → Q (.ref l) (upd H l (.lst ys))) := by subst hK; exact call_list_of
def spPairs (K : PySem.W.Frag) (CP c0 c1 c2 : Addr) : Sp := fun vs H Q E => ∃ (x dx : Addr) (B : Hp) (vk vr : V) (dk dr : PyData), vs = [.ref x, vk, vr] ∧ Ok (Fm.ob x (.ins CP dx [])) B H ∧ Dd K B vk dk ∧ Dd K B vr dr ∧
  (dueD dk dr = .tuple [.str "kept", dk, dr] → ∀ vk' vr' B' H', Step (fun a => a = x) B H B' H' → B' x = none → H' x = some (.ins CP dx [("kinds", vk'), ("rules", vr')]) → Dd K B' vk' dk → Dd K B' vr' dr → Q .non H') ∧
  (dueD dk dr = .tuple [.str "number", dk] → ∀ v dd B' H1 H', Step (fun a => a = x) B H B' H1 → Dd K B' v dk → Ex H1 H' → H' dd = some (.xd [("value", v)]) → E (.ref c0) (some dd) H') ∧
  (dueD dk dr = .tuple [.str "rules", dr] → ∀ v dd B' H1 H', Step (fun a => a = x) B H B' H1 → Dd K B' v dr → Ex H1 H' → H' dd = some (.xd [("value", v)]) → E (.ref c1) (some dd) H') ∧
  (∀ b : Int, dueD dk dr = .tuple [.str "endless", .int b] → ∀ v dd B' H1 H', Step (fun a => a = x) B H B' H1 → Dd K B' v (.int b) → Ex H1 H' → H' dd = some (.xd [("kind", v)]) → E (.ref c2) (some dd) H')
theorem due_num' {k r : PyData} (h : inB k 1 40 = false) : dueD k r = .tuple [.str "number", k] := by
  cases k with
  | int n =>
    have h' : ¬ (1 ≤ n ∧ n ≤ 40) := fun z => by
      unfold inB at h
      simp only [Bool.and_eq_false_iff, decide_eq_false_iff_not] at h
      omega
    unfold dueD
    simp only
    rw [if_neg h']
  | _ => rfl
theorem inB_is {k : PyData} {lo hi : Int} (h : inB k lo hi = true) : ∃ n : Int, k = .int n ∧ lo ≤ n ∧ n ≤ hi := by
  cases k with
  | int n =>
    unfold inB at h
    simp only [Bool.and_eq_true, decide_eq_true_eq] at h
    exact ⟨n, rfl, h.1, h.2⟩
  | _ => cases h
theorem rules_is {r : PyData} {n : Int} (h : rulesD r n = true) : ∃ rs, r = .tuple rs := by
  cases r with
  | tuple rs => exact ⟨rs, rfl⟩
  | _ => cases h

abbrev s_Pairs_init : Stmt := inClass (topS 31) 0
abbrev N_Pairs_init : List Str := ["self", "kinds", "rules", "endless", "rule"]
theorem sc_Pairs_init : FnScope N_Pairs_init ["self", "kinds", "rules"] (defScope s_Pairs_init) := ⟨rfl, rfl, rfl, by decide +kernel, rfl, by decide +kernel, by decide +kernel⟩
section
variable {c0 c1 c2 CP : Addr}
theorem ok_pairs (F : Fun K "__init__" "Pairs.__init__" s_Pairs_init f fd) (T : TP P w K mg base c0 c1 c2 CP) (C_is_between : Callee P w K mg base "is_between" 2 ["value", "low", "high"] (spBetween K)) (C_is_rules : Callee P w K mg base "is_rules" 4 ["value", "kinds"] (spF K (fun ds => ∃ d n, ds = [d, .int n]) fRules))
    (C_endless_kind : Callee P w K mg base "endless_kind" 2 ["steps"] (spEK K)) (C_steps_of : Callee P w K mg base "steps_of" 1 ["kinds", "rules"] (spF K preS fSteps)) : FnOk P w K mg base (L2.CX P w) 5 f fd ["self", "kinds", "rules"] (spPairs K CP c0 c1 c2) := by
  refine F.okX sc_Pairs_init (fun vs H Q E h => ?_) (fun cdv A outer s H vs Q E hr h => ?_)
  · obtain ⟨x, dx, B, vk, vr, dk, dr, rfl, _⟩ := h
    rfl
  · obtain ⟨x, dx, B, vk, vr, dk, dr, rfl, ok, hk, hrr, qk, qn, qr, qe⟩ := h
    refine ⟨_, (pss_cons (ps_if (pt_not (pt_val (pe_callC C_is_between (hr.mono (by decide)) rfl pass0 (pa_cons (pv 1) (pa_cons pe_int (pa_cons (pe_gint rfl T.c_MOST_KINDS) pa_nil)))))) (pss_one (ps_raise rfl (takes_of rfl rfl rfl rfl) (pmk_E T.x_InvalidNumber (hr.mono (by decide)) rfl (pa_cons (pv 1) pa_nil)))) pss_nil)
      (pss_cons (ps_if (pt_not (pt_val (pe_callC C_is_rules (hr.mono (by decide)) rfl pass0 (pa_cons (pv 2) (pa_cons (pv 1) pa_nil))))) (pss_one (ps_raise rfl (takes_of rfl rfl rfl rfl) (pmk_E T.x_InvalidRules (hr.mono (by decide)) rfl (pa_cons (pv 2) pa_nil)))) pss_nil)
      (pss_cons (ps_set (i := 3) sc_Pairs_init.nd rfl (Or.inl rfl) (pe_callC C_endless_kind (hr.mono (by decide)) rfl pass0 (pa_cons (pe_callC C_steps_of (hr.mono (by decide)) rfl pass0 (pa_cons (pv 1) (pa_cons (pv 2) pa_nil))) pa_nil)))
      (pss_cons (ps_if (pt_cmpR op_notN (pv 3) pe_non (nomark _)) (pss_one (ps_raise rfl (takes_of rfl rfl rfl rfl) (pmk_E T.x_Endless (hr.mono (by decide)) rfl (pa_cons (pv 3) pa_nil)))) pss_nil)
      (pss_cons (ps_fld (pv 0) (pv 1) rfl)
      (pss_one (ps_fld (pv 0) (pe_callTy (call_tuple_ofK K) (by rfl) T.m_tuple bt_tuple (pa_cons (pe_lc (own := [("rule", 4)]) rfl sc_Pairs_init.nd (pi_seqK K (pv 2)) (blkOk_by (own := [("rule", 4)]) (N := N_Pairs_init) (sc := defScope s_Pairs_init) (by decide +kernel)) (fun _ _ _ _ _ => pg_name (i := 4) sc_Pairs_init.nd rfl (Or.inl rfl)) (fun _ _ _ _ _ => pts_nil) (fun _ _ _ _ _ => (pe_callTy (call_tuple_ofK K) (by rfl) T.m_tuple bt_tuple (pa_cons (pv 4) pa_nil)))) pa_nil)) rfl))))))), ?_⟩
    have a : At (Fm.ob x (.ins CP dx [])) B H B H := At.start ok
    refine qv_when (b := !inB dk 1 40) a (et_not (et_val (ed_F (eds_cons (ed_var rfl hk) (eds_cons ed_int (eds_cons ed_int eds_nil))) ⟨_, _, _, rfl⟩ rfl))) (fun hb B1 H1 e1 a1 => ?_) (fun hb B1 H1 e1 a1 => ?_)
    · exact mk_raise (P := DD K dk) a1.j (ed_var rfl (hk.up e1)) fun v B2 H2 dd H' s2 k2 hv hd e2 hx => qn (due_num' (by simpa using hb)) v dd B2 H2 H' (a1.st.trans s2) hv e2 hx
    obtain ⟨n, rfl, n1, n2⟩ := inB_is (k := dk) (by simpa using hb)
    obtain rfl := dd_int hk
    refine qv_when (b := !rulesD dr n) a1 (et_not (et_val (ed_F (eds_cons (ed_var rfl (hrr.up e1)) (eds_cons (ed_var rfl (.int n)) eds_nil)) ⟨_, _, rfl⟩ rfl))) (fun hb2 B2 H2 e2 a2 => ?_) (fun hb2 B2 H2 e2 a2 => ?_)
    · exact mk_raise (P := DD K dr) a2.j (ed_var rfl (hrr.up (e1.trans e2))) fun v B3 H3 dd H' s3 k3 hv hd e3 hx => qr (due_rules ⟨n1, n2⟩ (by simpa using hb2)) v dd B3 H3 H' (a2.st.trans s3) hv e3 hx
    have hok : rulesD dr n = true := by simpa using hb2
    obtain ⟨rs, rfl⟩ := rules_is hok
    obtain ⟨l1, l2, hall⟩ := rules_all hok
    have en : ((n.toNat : Nat) : Int) = n := by omega
    have e12 := e1.trans e2
    have hE : ∀ a b, (a, b) ∈ edges rs → 0 ≤ b ∧ b < ((n.toNat : Nat) : Int) := fun a b h => by
      have := edges_in (n := n) hall a b h
      rw [en]
      exact ⟨this.2.2.1, this.2.2.2⟩
    refine qv_asg (P := DD K (optD (backK (edges rs) n.toNat))) a2 (ev_ek (ed_F (z := adjD (edges rs) n.toNat) (eds_cons (ed_var rfl (.int n)) (eds_cons (ed_var rfl (hrr.up e12)) eds_nil)) ⟨rs, n.toNat, by rw [en], by omega, by omega, by rw [en]; exact hall⟩ rfl) hE (by omega) (by have := edges_len rs; omega)) fun vb B3 H3 e3 a3 h3 => ?_
    have due := due_back ⟨n1, n2⟩ hok
    refine qv_when (b := !isNon (optD (backK (edges rs) n.toNat))) a3 (et_cmp (ed_op (ed_var rfl h3) ed_non rd_notN)) (fun hb4 B4 H4 e4 a4 => ?_) (fun hb4 B4 H4 e4 a4 => ?_)
    · cases hh : backK (edges rs) n.toNat with
      | none => rw [hh] at hb4; cases hb4
      | some b =>
        rw [hh] at due h3
        exact mk_raise (P := DD K (.int b)) a4.j (ed_var rfl (h3.up e4)) fun v B5 H5 dd H' s5 k5 hv hd e5 hx => qe b due v dd B5 H5 H' (a4.st.trans s5) hv e5 hx
    · have hh : backK (edges rs) n.toNat = none := by
        cases hh : backK (edges rs) n.toNat with
        | none => rfl
        | some b => rw [hh] at hb4; cases hb4
      rw [hh] at due
      have hr4 : Dd K B4 vr (.tuple rs) := hrr.up ((e12.trans e3).trans e4)
      refine ⟨.int n, rfl, .ref x, rfl, x, CP, dx, [], rfl, a4.j.j, T.cl, T.nk, by decide, ?_⟩
      obtain ⟨k5, s5⟩ := ob_set (o' := .ins CP dx (putF "kinds" (.int n) [])) a4.j
      have a5 : At (Fm.ob x (.ins CP dx (putF "kinds" (.int n) []))) B4 (upd H4 x (.ins CP dx (putF "kinds" (.int n) []))) B4 (upd H4 x (.ins CP dx (putF "kinds" (.int n) []))) := At.start k5
      have evt : ED (Fm.ob x (.ins CP dx (putF "kinds" (.int n) []))) K _ _ B4 (.tuple rs) := ev_cb (eds_cons (ed_is (ed_lcD (j := 4) (vsN := [4]) (fun _ => true) (fun r => r) (ev_seqT (ed_var (i := 2) (σ := [some (.ref x), some (.int n), some vr, some vb, none]) rfl hr4)) (by omega) (fun _ => rfl) (fun d v B6 _ _ _ => et_yes) (fun d v B6 hm _ _ hdv => ev_cb (eds_cons (ed_var (i := 4) rfl hdv) eds_nil) (rc_tupA (rule_tup (hall d hm))))) (by rw [List.filter_eq_self.mpr (fun _ _ => rfl), List.map_id'])) eds_nil) rc_tupL
      dsimp only
      unfold sFld
      refine evt B4 (Ex.refl B4) _ k5 _ fun v6 B6 H6 s6 k6 g6 => ?_
      refine ⟨.ref x, rfl, x, CP, dx, _, rfl, k6.j, T.cl, T.nr, by show 1 < 1000; decide, ?_⟩
      obtain ⟨k7, s7⟩ := ob_set (o' := .ins CP dx (putF "rules" v6 (putF "kinds" (.int n) []))) k6
      exact qk due (.int n) v6 B6 _ (((a4.st.trans s5).trans s6).trans s7) (k6.av x rfl) (by rw [upd_same]; rfl) (.int n) g6
end
end
end K50

namespace K50
open PySem PySem.Spec PyProof.Rows L2 Evl Ex Dx
open PySem.PyData (strOk)

section
variable {P : Program} {w : World} {K : PySem.W.Frag} {mg : Str → Option Value} {base : Heap} {f : Addr} {fd : FuncData}

variable {c0 c1 c2 CP : Addr}
def InsP (K : PySem.W.Frag) (CP : Addr) (dk dr : PyData) : PV := fun v B => ∃ (x dx : Addr) (vk vr : V), v = .ref x ∧ B x = some (.ins CP dx [("kinds", vk), ("rules", vr)]) ∧ Dd K B vk dk ∧ Dd K B vr dr
theorem upc_ins {dk dr : PyData} : Upc (InsP K CP dk dr) := fun v B B' e ⟨x, dx, vk, vr, h1, h2, h3, h4⟩ => ⟨x, dx, vk, vr, h1, e _ _ h2, h3.up e, h4.up e⟩
section
variable {F : Fm} {B : Hp} {σ : L2.St} {te : TE} {tas : TA} {dk dr dk2 dr2 : PyData}
theorem ev_fk (T : TP P w K mg base c0 c1 c2 CP) (h : EV F te σ B (InsP K CP dk dr)) : ED F K (tFld K te "kinds") σ B dk := fun B1 e0 H k Q q => h B1 e0 H k _ fun v B2 H2 s2 k2 ⟨x, dx, vk, vr, e, h2, h3, h4⟩ => ⟨x, CP, dx, _, vk, e, k2.e _ _ h2, T.cl, T.nk, rfl, q vk B2 H2 s2 k2 h3⟩
theorem ev_fr (T : TP P w K mg base c0 c1 c2 CP) (h : EV F te σ B (InsP K CP dk dr)) : ED F K (tFld K te "rules") σ B dr := fun B1 e0 H k Q q => h B1 e0 H k _ fun v B2 H2 s2 k2 ⟨x, dx, vk, vr, e, h2, h3, h4⟩ => ⟨x, CP, dx, _, vr, e, k2.e _ _ h2, T.cl, T.nr, rfl, q vr B2 H2 s2 k2 h4⟩
theorem ev_isP (T : TP P w K mg base c0 c1 c2 CP) (h : EV F te σ B (InsP K CP dk dr)) : ED F K (tCB (rIsi K) (tCons te (tCons (tC (.ref CP)) tNil))) σ B (.bool true) := fun B1 e0 H k Q q => h B1 e0 H k _ fun v B2 H2 s2 k2 ⟨x, dx, vk, vr, e, h2, h3, h4⟩ =>
  ⟨v, .ref CP, .ref CP, .ref CP, true, rfl, .own CP, by rw [e]; exact .base (.ins (k2.e _ _ h2) T.cl T.ca T.sg T.tk T.mo), T.kt1, q _ B2 H2 s2 k2 (.bl true)⟩
theorem ev_isT (T : TP P w K mg base c0 c1 c2 CP) {ds : List PyData} (h : ED F K te σ B (.tuple ds)) : ED F K (tCB (rIsi K) (tCons te (tCons (tC (.ref CP)) tNil))) σ B (.bool false) := fun B1 e0 H k Q q => h B1 e0 H k _ fun v B2 H2 s2 k2 g =>
  ⟨v, .ref CP, .type "tuple", .ref CP, false, rfl, .own CP, tyX (Dd.up g k2.e), T.kt2, q _ B2 H2 s2 k2 (.bl false)⟩
theorem made_step0 {x dx : Addr} {B' H H' : Hp} {o : HO} (hx : H x = none) (hdx : H dx = none) (s : Step (fun a => a = x) B (upd (upd H dx (.own x)) x o) B' H') : Step (fun _ => False) B H B' H' := by
  have up : ∀ a u, H a = some u → upd (upd H dx (.own x)) x o a = some u := fun a u h => by
    rw [upd_ne (ne_of_none h hx), upd_ne (ne_of_none h hdx)]
    exact h
  have lv : ∀ a, H a ≠ none → upd (upd H dx (.own x)) x o a ≠ none := fun a n => by
    cases hh : H a with
    | none => exact absurd hh n
    | some u =>
      rw [up a u hh]
      exact fun z => nomatch z
  have lv2 : ∀ a, Liv H a → Liv (upd (upd H dx (.own x)) x o) a := fun a ⟨u, h, n⟩ => ⟨u, up a u h, n⟩
  exact ⟨s.bb, s.bh, fun a u _ h => s.keep a u (fun z => ne_of_none h hx z) (up a u h), fun a h n => s.sep a h (lv2 a n), fun a n => s.live a (lv a n), fun a n => s.liv a (lv2 a n)⟩
theorem made_step {x dx : Addr} {B' H H' : Hp} {o o' : HO} (e : Ex B H) (hx : H x = none) (hdx : H dx = none) (s : Step (fun a => a = x) B (upd (upd H dx (.own x)) x o) B' H') (bx : B' x = none) (hx' : H' x = some o') : Step (fun _ => False) B H (upd B' x o') H' := by
  have s0 := made_step0 hx hdx s
  exact ⟨fun a u h => by rw [upd_ne (ne_of_none (e _ _ h) hx)]; exact s0.bb _ _ h, fun a u h => by
    by_cases ea : a = x
    · subst ea
      rw [upd_same] at h
      rw [hx']
      exact h
    · rw [upd_ne ea] at h
      exact s0.bh _ _ h, s0.keep, fun a h n => by
    have ea : a ≠ x := fun z => n.ne (z ▸ hx)
    rw [upd_ne ea]
    exact s0.sep a h n, s0.live, s0.liv⟩
theorem made_ok {x dx : Addr} {H : Hp} {o : HO} (e : Ex B H) (hx : H x = none) (hdx : H dx = none) (ho : nT o := by trivial) : Ok (Fm.ob x o ho) B (upd (upd H dx (.own x)) x o) := ⟨fun a u h => by
  have h' := e _ _ h
  rw [upd_ne (ne_of_none h' hx), upd_ne (ne_of_none h' hdx)]
  exact h', upd_same, fun a m => by rw [show a = x from m]; exact fresh_back e hx⟩
theorem ev_make {E : L2.St → XK} (ha : EDs F K tas σ B [dk, dr]) (hd : dueD dk dr = .tuple [.str "kept", dk, dr]) : EV F (tMakeS CP (spPairs K CP c0 c1 c2) E tas) σ B (InsP K CP dk dr) := fun B1 e0 H k Q q => ha B1 e0 H k _ fun vs B2 H2 s2 k2 g => by
  intro x dx hx hdx hne
  obtain ⟨vk, vr, rfl, gk, gr⟩ := arg2 g
  refine ⟨x, dx, B2, vk, vr, dk, dr, rfl, made_ok k2.e hx hdx, gk, gr, fun _ vk' vr' B' H' s bx hx' h1 h2 => ⟨rfl, ?_⟩, fun h => (by rw [hd] at h; cases h), fun h => (by rw [hd] at h; cases h), fun b h => (by rw [hd] at h; cases h)⟩
  have s3 := made_step k2.e hx hdx s bx hx'
  exact q _ _ _ (s2.trans s3.pure) (k2.pure s3) ⟨x, dx, vk', vr', rfl, upd_same, h1.up (Ex.new bx), h2.up (Ex.new bx)⟩
end
def spEq (K : PySem.W.Frag) (CP : Addr) : Sp := fun vs H Q _ => ∃ (B : Hp) (v u : V) (dk dr : PyData) (b : Bool), vs = [v, u] ∧ Ex B H ∧ InsP K CP dk dr v B ∧ SeqAt.shaped dk = true ∧ SeqAt.shaped dr = true ∧
  ((∃ dk2 dr2, InsP K CP dk2 dr2 u B ∧ SeqAt.shaped dk2 = true ∧ SeqAt.shaped dr2 = true ∧ b = (PyData.eqv dk dk2 && PyData.eqv dr dr2)) ∨ ((∃ ds, Dd K B u (.tuple ds)) ∧ b = false)) ∧ ∀ B' H', Step (fun _ => False) B H B' H' → Q (.bl b) H'

abbrev s_Pairs_eq : Stmt := inClass (topS 31) 1
abbrev N_Pairs_eq : List Str := ["self", "other"]
theorem sc_Pairs_eq : FnScope N_Pairs_eq ["self", "other"] (defScope s_Pairs_eq) := ⟨rfl, rfl, rfl, by decide +kernel, rfl, by decide +kernel, by decide +kernel⟩
theorem ok_eq (F : Fun K "__eq__" "Pairs.__eq__" s_Pairs_eq f fd) (T : TP P w K mg base c0 c1 c2 CP) : FnOk P w K mg base CX0 1 f fd ["self", "other"] (spEq K CP) := by
  refine F.ok sc_Pairs_eq (fun vs H Q E h => ?_) (fun cdv A outer s H vs Q E hr h => ?_)
  · obtain ⟨B, v, u, dk, dr, b, rfl, _⟩ := h
    rfl
  · obtain ⟨B, v, u, dk, dr, b, rfl, e, hi, s1, s2, hu, q⟩ := h
    have hu64 : (A.deeper (envOfC "Pairs.__eq__" (defScope s_Pairs_eq) s.heap.objs.size f cdv)).units + 64 < cLine := hr.units
    refine ⟨_, (pss_one (ps_ret (pe_and (pe_callB (call_isiK1 K) (by rfl) T.m_isinstance bt_isinstance (pa_cons (pv 1) (pa_cons (pe_glob (v := .ref _) rfl T.g_Pairs rfl) pa_nil))) (pe_and (pe_cmpR (op_eqDK K hu64) (pe_fldK K (pv 0)) (pe_fldK K (pv 1)) (nomark _)) (pe_one (pe_cmpR (op_eqDK K hu64) (pe_fldK K (pv 0)) (pe_fldK K (pv 1)) (nomark _))))))), ?_⟩
    have a : At Fm.pure B H B H := At.start (Ok.any e)

    rcases hu with ⟨dk2, dr2, hu, s3, s4, rfl⟩ | ⟨⟨ds, hu⟩, rfl⟩
    · refine sv_ret (P := DD K (.bool (PyData.eqv dk dk2 && PyData.eqv dr dr2))) a (ed_is (ed_andV (ev_isP T (ev_var rfl upc_ins hu)) fun _ => ed_andV (ed_op (ev_fk T (ev_var rfl upc_ins hi)) (ev_fk T (ev_var rfl upc_ins hu)) (rd_eqD s1 s3)) fun _ => ed_op (ev_fr T (ev_var rfl upc_ins hi)) (ev_fr T (ev_var rfl upc_ins hu)) (rd_eqD s2 s4)) (by rw [Bool.true_and])) fun v1 B1 H1 e1 a1 h1 => ?_
      obtain rfl := dd_bl h1
      exact q B1 H1 a1.st
    · refine sv_ret (P := DD K (.bool false)) a (ed_andV (c := true) (ev_isT T (ed_var rfl hu)) fun h => nomatch h) fun v1 B1 H1 e1 a1 h1 => ?_
      obtain rfl := dd_bl h1
      exact q B1 H1 a1.st
section
variable {F : Fm} {B : Hp} {dk dr dk2 dr2 : PyData} {E : XK}
theorem rv_ownEq (s1 : SeqAt.shaped dk = true) (s2 : SeqAt.shaped dr = true) (s3 : SeqAt.shaped dk2 = true) (s4 : SeqAt.shaped dr2 = true) : RV2 F (rOwnEq K CP (spEq K CP) E) B (InsP K CP dk dr) (InsP K CP dk2 dr2) (DD K (.bool (PyData.eqv dk dk2 && PyData.eqv dr dr2))) := fun B1 e0 H u v j hu hv Q q => by
  obtain ⟨x, dx, vk, vr, rfl, h1, h2, h3⟩ := hu
  obtain ⟨y, dy, wk, wr, rfl, g1, g2, g3⟩ := hv
  exact ⟨x, dx, _, rfl, j.e _ _ h1, .inl ⟨y, dy, _, rfl, j.e _ _ g1⟩, B1, .ref x, .ref y, dk, dr, _, rfl, j.e, ⟨x, dx, vk, vr, rfl, h1, h2, h3⟩, s1, s2, .inl ⟨dk2, dr2, ⟨y, dy, wk, wr, rfl, g1, g2, g3⟩, s3, s4, rfl⟩, fun B' H' s => ⟨⟨_, rfl⟩, q _ B' H' s.pure (j.pure s) (.bl _)⟩⟩
theorem rv_ownEqT {ds : List PyData} (s1 : SeqAt.shaped dk = true) (s2 : SeqAt.shaped dr = true) : RV2 F (rOwnEq K CP (spEq K CP) E) B (InsP K CP dk dr) (DD K (.tuple ds)) (DD K (.bool false)) := fun B1 e0 H u v j hu hv Q q => by
  obtain ⟨x, dx, vk, vr, rfl, h1, h2, h3⟩ := hu
  obtain ⟨y, ys, rfl, g1, g2, g3⟩ := dd_tup hv
  exact ⟨x, dx, _, rfl, j.e _ _ h1, .inr ⟨y, ys, rfl, ex_t j.e g1⟩, B1, .ref x, .ref y, dk, dr, _, rfl, j.e, ⟨x, dx, vk, vr, rfl, h1, h2, h3⟩, s1, s2, .inr ⟨⟨ds, hv⟩, rfl⟩, fun B' H' s => ⟨⟨_, rfl⟩, q _ B' H' s.pure (j.pure s) (.bl _)⟩⟩
end
def spMade (K : PySem.W.Frag) (CP : Addr) : Sp := fun vs H Q _ => ∃ (B : Hp) (v : V) (dk dr : PyData), vs = [v] ∧ Ex B H ∧ Dd K B v (.tuple [dk, dr]) ∧ dueD dk dr = .tuple [.str "kept", dk, dr] ∧ ∀ v' B' H', Step (fun _ => False) B H B' H' → InsP K CP dk dr v' B' → Q v' H'
variable {fI : Addr} {fdI : FuncData}

abbrev s_law_made : Stmt := topS 114
abbrev N_law_made : List Str := ["grammar"]
theorem sc_law_made : FnScope N_law_made ["grammar"] (defScope s_law_made) := ⟨rfl, rfl, rfl, by decide +kernel, rfl, by decide +kernel, by decide +kernel⟩
theorem ok_law_made (F : Fun K "_law_made" "_law_made" s_law_made f fd) (T : TP P w K mg base c0 c1 c2 CP) (M_Pairs : Mk K CP fI) (G_Pairs : FnOk P w K mg base (L2.CX P w) 5 fI fdI ["self", "kinds", "rules"] (spPairs K CP c0 c1 c2)) (B_Pairs : L2.Binds K fdI ["self", "kinds", "rules"] []) : FnOk P w K mg base CX0 7 f fd ["grammar"] (spMade K CP) := by
  refine F.ok sc_law_made (fun vs H Q E h => ?_) (fun cdv A outer s H vs Q E hr h => ?_)
  · obtain ⟨B, v, dk, dr, rfl, _⟩ := h
    rfl
  · obtain ⟨B, v, dk, dr, rfl, e, hv, hd, q⟩ := h
    refine ⟨_, (pss_one (ps_ret (pe_makeS M_Pairs G_Pairs (hr.mono (by decide)) rfl T.g_Pairs B_Pairs (fun σ => passAt takes0 σ) (pa_cons (pe_ix (ix_seqK K) (pv 0) pe_int (fun _ _ => rfl)) (pa_cons (pe_ix (ix_seqK K) (pv 0) pe_int (fun _ _ => rfl)) pa_nil))))), ?_⟩
    have a : At Fm.pure B H B H := At.start (Ok.any e)

    exact sv_ret (P := InsP K CP dk dr) a (ev_make (eds_cons (ed_op (ed_var rfl hv) ed_int (rd_ixT at2_0)) (eds_cons (ed_op (ed_var rfl hv) ed_int (rd_ixT at2_1)) eds_nil)) hd) fun v1 B1 H1 e1 a1 h1 => q v1 B1 H1 a1.st h1
end
end K50

namespace K50
open PySem PySem.Spec PyProof.Rows L2 Evl Ex Dx
open PySem.PyData (strOk)

section
variable {P : Program} {w : World} {K : PySem.W.Frag} {mg : Str → Option Value} {base : Heap} {f : Addr} {fd : FuncData}

abbrev L12 : List Str := ["left", "right", "same", "first", "last", "wrap", "ahead", "behind", "a", "ab", "b", "aab", "z", "c", "q"]
def atomD (d : PyData) : Bool := match d with
  | .int i => decide (0 ≤ i) && decide (i ≤ 40)
  | .str s => L12.contains s
  | _ => false
def smD : Nat → PyData → Bool
  | 0 => atomD
  | n + 1 => fun d => atomD d || (match d with | .tuple ds => decide (ds.length ≤ 3000) && ds.all (smD n) | _ => false)
theorem strF : ∀ s ∈ L12, strOk s = true ∧ strOk (s ++ ("b" : Str)) = true ∧ strOk (cutS s (some 1) none) = true ∧ strOk (("a" : Str) ++ s) = true ∧ s.length ≤ 100 ∧ (cutS s (some 1) none).length ≤ 100 := by decide +kernel
theorem intF : ∀ n : Fin 41, strOk (toString ((n : Nat) : Int) : Str) = true ∧ (toString ((n : Nat) : Int) : Str).length ≤ 100 := by decide +kernel
theorem atom_is {d : PyData} (h : atomD d = true) : (∃ i : Int, d = .int i ∧ 0 ≤ i ∧ i ≤ 40) ∨ ∃ s, d = .str s ∧ s ∈ L12 := by
  cases d with
  | int i =>
    have h' : (decide (0 ≤ i) && decide (i ≤ 40)) = true := h
    rw [Bool.and_eq_true, decide_eq_true_eq, decide_eq_true_eq] at h'
    exact .inl ⟨i, rfl, h'.1, h'.2⟩
  | str s => exact .inr ⟨s, rfl, List.contains_iff_mem.mp h⟩
  | _ => cases h
theorem atom_sm {d : PyData} (h : atomD d = true) (n : Nat) : Sm (n + 1) d := by
  rcases atom_is h with ⟨i, rfl, _⟩ | ⟨s, rfl, hs⟩
  · exact sm_int
  · exact sm_str (strF s hs).1
theorem smD_is {n : Nat} {d : PyData} (h : smD (n + 1) d = true) : atomD d = true ∨ ∃ ds, d = .tuple ds ∧ ds.length ≤ 3000 ∧ ∀ x ∈ ds, smD n x = true := by
  cases d with
  | tuple ds =>
    have h2 : (decide (ds.length ≤ 3000) && ds.all (smD n)) = true := h
    rw [Bool.and_eq_true, decide_eq_true_eq, List.all_eq_true] at h2
    exact .inr ⟨ds, rfl, h2.1, h2.2⟩
  | int i => exact .inl (by simpa [smD] using h)
  | str s => exact .inl (by simpa [smD] using h)
  | _ => exact .inl (by simpa [smD] using h)
theorem smD_sm : ∀ (n : Nat) (d : PyData), smD n d = true → Sm (n + 1) d
  | 0, d, h => atom_sm h 0
  | n + 1, d, h => by
    rcases smD_is h with h1 | ⟨ds, rfl, _, h2⟩
    · exact atom_sm h1 _
    · exact sm_tup fun x hx => smD_sm n x (h2 x hx)
theorem mem_cutL {α : Type} {x : α} {ds : List α} {lo hi : Option Int} (h : x ∈ cutL ds lo hi) : x ∈ ds := List.mem_of_mem_drop (List.mem_of_mem_take h)
theorem eqvT_nil : ∀ ds : List PyData, PyData.eqv (.tuple ds) (.tuple []) = ds.isEmpty
  | [] => by simp [PyData.eqv, PyData.eqvAll]
  | d :: ds => by simp [PyData.eqv, PyData.eqvAll]
/-- a test that may go either way; if it is true, c is -/
def EB (F : Fm) (tt : TT) (σ : L2.St) (B : Hp) (c : Bool) : Prop := ∀ B1, Ex B B1 → ∀ H, Ok F B1 H → ∀ Q : Bool → Hp → Prop, (∀ b B' H', Step F.M B1 H B' H' → Ok F B' H' → (b = true → c = true) → Q b H') → tt σ H Q
section
variable {F : Fm} {σ : L2.St} {B0 H0 B H : Hp} {t u : TT} {te : TE} {b c : Bool} {D : Ends} {tu tz tw : TS} {i : Int}
theorem eb_and (h1 : ETt F t σ B b) (h2 : b = true → EB F u σ B true) : EB F (tAnd t u) σ B b := fun B1 e0 H j Q q => h1 B1 e0 H j _ fun B2 H2 s2 j2 => by
  cases b with
  | true =>
    show u σ H2 Q
    exact h2 rfl B2 (e0.trans s2.bb) H2 j2 Q fun c B3 H3 s3 j3 _ => q c B3 H3 (s2.trans s3) j3 fun _ => rfl
  | false =>
    show Q false H2
    exact q false B2 H2 s2 j2 fun h => h
theorem eb_cmp {P : PV} (h : EV F te σ B P) (hp : ∀ v B1, P v B1 → ∃ b, v = .bl b) : EB F (tTest te) σ B true := fun B1 e0 H j Q q => h B1 e0 H j _ fun v B2 H2 s2 j2 g => by
  obtain ⟨b, rfl⟩ := hp v B2 g
  exact ⟨b, rfl, q b B2 H2 s2 j2 fun _ => rfl⟩
theorem eb_and' (h1 : ETt F t σ B true) (h2 : EB F u σ B true) : EB F (tAnd t u) σ B true := eb_and h1 fun _ => h2
theorem sv_ifB (a : At F B0 H0 B H) (h : EB F t σ B c) (h1 : c = true → ∀ B1 H1, Ex B B1 → At F B0 H0 B1 H1 → tu D σ H1) (h2 : ∀ B1 H1, Ex B B1 → At F B0 H0 B1 H1 → tw D σ H1) : tIfS t tu tw D σ H := h B (Ex.refl B) H a.j _ fun b B1 H1 s j hb => by
  cases b with
  | true =>
    show tu D σ H1
    exact h1 (hb rfl) B1 H1 s.bb (a.next s j)
  | false =>
    show tw D σ H1
    exact h2 B1 H1 s.bb (a.next s j)
theorem qv_whenB (a : At F B0 H0 B H) (h : EB F t σ B c) (h1 : c = true → ∀ B1 H1, Ex B B1 → At F B0 H0 B1 H1 → tu { D with nx := tz D } σ H1) (h2 : ∀ B1 H1, Ex B B1 → At F B0 H0 B1 H1 → tz D σ H1) : tSeq (tIfS t tu tNext) tz D σ H := sv_ifB (D := { D with nx := tz D }) a h h1 h2
theorem ed_neg {ta : TE} (h : ED F K ta σ B (.int i)) : ED F K (tUn (rU fun i => .int (-i)) ta) σ B (.int (-i)) := fun B1 e0 H j Q q => h B1 e0 H j _ fun v B2 H2 s2 j2 g => ⟨i, dd_int g, q _ B2 H2 s2 j2 (.int _)⟩
end
theorem lay_sh {n : Nat} {d : PyData} (h : smD (n + 1) d = true) (hn : n + 2 ≤ 64 := by omega) : SeqAt.shaped d = true := (smD_sm _ _ h).sh hn
def spSpoil (K : PySem.W.Frag) (n : Nat) : Sp := fun vs H Q _ => ∃ (p : Addr) (v : V) (B : Hp) (d : PyData), vs = [.ref p, v, .int (n : Nat)] ∧ Ok (Fm.box p) B H ∧ Dd K B v d ∧ smD n d = true ∧
  ∀ v' B' H' e, Step (fun a => a = p) B H B' H' → Ok (Fm.box p) B' H' → Dd K B' v' e → Sm (n + 2) e → Q v' H'

end
end K50

namespace K50
open PySem PySem.Spec PyProof.Rows L2 Evl Ex Dx
open PySem.PyData (strOk)

section
variable {P : Program} {w : World} {K : PySem.W.Frag} {mg : Str → Option Value} {base : Heap} {f : Addr} {fd : FuncData}

/-! ### lists that grow while draws are made -/
section
variable {F : Fm} {B1 H1 B' H' B5 H5 : Hp} {fa : Addr} {acc : List V} {ds : List PyData}
theorem cq_set {acc' : List V} {ds' : List PyData} (hD : H1 fa = none) (k1 : Ok F B1 H1) (s : Step F.M B1 H1 B' H') (k : Ok F B' H') (hb : B' fa = none) (ha : DdAll K B' acc' ds') : Cq F K B1 H1 fa ds' (upd H' fa (.lst acc')) := by
  have nm : ¬ F.M fa := fun m => (F.lv H1 fa k1.j m).ne hD
  have s2 : Step F.M B1 H1 B' (upd H' fa (.lst acc')) := ⟨s.bb, fun a o h => by rw [upd_ne (ne_of_none h hb)]; exact k.e a o h, fun a o n h => by rw [upd_ne (ne_of_none h hD)]; exact s.keep a o n h, s.sep, fun a n => by
    have ha : a ≠ fa := fun z => n (z ▸ hD)
    rw [upd_ne ha]
    exact s.live a n, fun a n => (s.liv a n).upd fun z => n.ne (z ▸ hD)⟩
  have j2 : F.J (upd H' fa (.lst acc')) := F.fr H' fa _ k.j nm
  exact ⟨B', acc', s2, k1.next s2 j2, hb, upd_same, ha⟩
/-- opened: the list stands as data for a while -/
theorem cq_open (hD : H1 fa = none) (k1 : Ok F B1 H1) (k : Ok F B' H') (hb : B' fa = none) (hd : H' fa = some (.lst acc)) (ha : DdAll K B' acc ds) (hl : ds.length ≤ 16777216) : Ok F (upd B' fa (.lst acc)) H' ∧ Dd K (upd B' fa (.lst acc)) (.ref fa) (.list ds) := by
  have nm : ¬ F.M fa := fun m => (F.lv H1 fa k1.j m).ne hD
  refine ⟨⟨fun a o h => ?_, k.j, fun a m => ?_⟩, .lst upd_same (by rw [ha.len, sizeLine_eq]; exact hl) (ha.up (Ex.new hb))⟩
  · by_cases e : a = fa
    · subst e
      rw [upd_same] at h
      rw [hd]
      exact h
    · rw [upd_ne e] at h
      exact k.e a o h
  · have e : a ≠ fa := fun z => nm (z ▸ m)
    rw [upd_ne e]
    exact k.av a m
def del1 (B : Hp) (fa : Addr) : Hp := fun a => if a = fa then none else B a
theorem del1_ne {B : Hp} {a : Addr} (h : a ≠ fa) : del1 B fa a = B a := by
  unfold del1
  rw [if_neg h]
theorem del1_same {B : Hp} : del1 B fa fa = none := by
  unfold del1
  rw [if_pos rfl]
theorem del1_sub {B : Hp} {a : Addr} {o : HO} (h : del1 B fa a = some o) : a ≠ fa ∧ B a = some o := by
  unfold del1 at h
  split at h
  · cases h
  · rename_i n
    exact ⟨n, h⟩
/-- closed again -/
theorem cq_close (hD : H1 fa = none) (k1 : Ok F B1 H1) (s : Step F.M B1 H1 B' H') (hb : B' fa = none) (hd : H' fa = some (.lst acc)) (s5 : Step F.M (upd B' fa (.lst acc)) H' B5 H5) (k5 : Ok F B5 H5) :
    Step F.M B1 H1 (del1 B5 fa) H5 ∧ Ok F (del1 B5 fa) H5 ∧ Ex B' (del1 B5 fa) ∧ H5 fa = some (.lst acc) := by
  have nm : ¬ F.M fa := fun m => (F.lv H1 fa k1.j m).ne hD
  have eB : Ex B' (del1 B5 fa) := fun a o h => by
    have n : a ≠ fa := ne_of_none h hb
    rw [del1_ne n]
    exact s5.bb a o (by rw [upd_ne n]; exact h)
  have eH : Ex (del1 B5 fa) H5 := fun a o h => k5.e a o (del1_sub h).2
  have st : Step F.M B1 H1 (del1 B5 fa) H5 := ⟨fun a o h => eB a o (s.bb a o h), eH, fun a o n h => s5.keep a o n (s.keep a o n h), fun a h n => by
    have na : a ≠ fa := fun z => n.ne (z ▸ hD)
    rw [del1_ne na]
    exact s5.sep a (by rw [upd_ne na]; exact s.sep a h n) (s.liv a n), fun a n => s5.live a (s.live a n), fun a n => s5.liv a (s.liv a n)⟩
  exact ⟨st, k1.next st k5.j, eB, s5.keep fa _ nm hd⟩
/-- flat data have no list within -/
theorem flat_del {B : Hp} : ∀ {vs : List V} {ds : List PyData}, DdAll K B vs ds → ds.all flatD = true → DdAll K (del1 B fa) vs ds
  | _, _, .nil, _ => .nil
  | _, _, .cons a t, h => by
    rw [List.all_cons, Bool.and_eq_true] at h
    refine .cons ?_ (flat_del t h.2)
    cases a with
    | non => exact .non
    | bl b => exact .bl b
    | int i => exact .int i
    | str x hl => exact .str x hl
    | lst _ _ _ => cases h.1
    | tup _ _ _ => cases h.1
theorem tup_del {B : Hp} {v : V} {xs : List PyData} (h : Dd K B v (.tuple xs)) (hf : B fa = some (.lst acc)) (fl : xs.all flatD = true) : Dd K (del1 B fa) v (.tuple xs) := by
  obtain ⟨a, ys, rfl, h1, h2, h3⟩ := dd_tupA h
  refine .tup ?_ h2 (flat_del h3 fl)
  rcases h1 with h1 | h1
  · have n : a ≠ fa := fun z => by rw [z, hf] at h1; cases h1
    exact .inl (by rw [del1_ne n]; exact h1)
  · exact .inr h1
end
/-! ### _law_shuffled -/
def spShuf (K : PySem.W.Frag) : Sp := fun vs H Q _ => ∃ (p : Addr) (v : V) (B : Hp) (rs : List PyData), vs = [.ref p, v] ∧ Ok (Fm.box p) B H ∧ Dd K B v (.list rs) ∧ rs.length ≤ 100 ∧
  ∀ v' B' H' (rs' : List PyData), Step (fun a => a = p) B H B' H' → Ok (Fm.box p) B' H' → Dd K B' v' (.list rs') → rs'.Perm rs → Q v' H'
theorem DdAll.ins {H : Hp} {vs : List V} {ds : List PyData} {v : V} {d : PyData} (h : DdAll K H vs ds) (g : Dd K H v d) (n : Nat) : DdAll K H (vs.take n ++ [v] ++ vs.drop n) (ds.take n ++ [d] ++ ds.drop n) := ((h.take n).snoc g).app (h.drop n)
theorem ins_perm (n : Nat) (l : List PyData) (d : PyData) : (l.take n ++ [d] ++ l.drop n).Perm (l ++ [d]) := by
  have h1 : (l.take n ++ [d] ++ l.drop n).Perm (d :: (l.take n ++ l.drop n)) := by
    rw [List.append_assoc]
    exact List.perm_middle
  rw [List.take_append_drop] at h1
  exact h1.trans (List.perm_append_singleton d l).symm

abbrev s_law_shuffled : Stmt := topS 110
abbrev N_law_shuffled : List Str := ["box", "some", "found", "one"]
theorem sc_law_shuffled : FnScope N_law_shuffled ["box", "some"] (defScope s_law_shuffled) := ⟨rfl, rfl, rfl, by decide +kernel, rfl, by decide +kernel, by decide +kernel⟩
theorem ok_shuffled (F : Fun K "_law_shuffled" "_law_shuffled" s_law_shuffled f fd) (T : TC K mg) (C_law_take : Callee P w K mg base "_law_take" 1 ["box", "many"] (spTake K)) : FnOk P w K mg base CX0 2 f fd ["box", "some"] (spShuf K) := by
  refine F.ok sc_law_shuffled (fun vs H Q E h => ?_) (fun cdv A outer s H vs Q E hr h => ?_)
  · obtain ⟨p, v, B, rs, rfl, _⟩ := h
    rfl
  · obtain ⟨p, v, B, rs, rfl, ok, hv, hl, q⟩ := h
    obtain ⟨l, xs, rfl, h1, _, hx⟩ := dd_lst hv
    refine ⟨_, (pss_cons (ps_set (i := 2) sc_law_shuffled.nd rfl (Or.inl rfl) (pe_lst pa_nil))
      (pss_cons (ps_for PassesOwn.never rfl (pi_seqK K (pv 1)) (pg_name (i := 3) sc_law_shuffled.nd rfl (Or.inl rfl)) (pss_one (ps_expr (pe_bm PySem.F.plainAttrs_list PySem.F.slot_list_insert PySem.F.type_list_insert mt_insert (pv 2) (pa_cons (pe_callC C_law_take (hr.mono (by decide)) rfl pass0 (pa_cons (pv 0) (pa_cons (pe_op (op_addK K) (pe_callB (call_lenK K) (by rfl) T.m_len bt_len (pa_cons (pv 2) pa_nil)) pe_int) pa_nil))) (pa_cons (pv 3) pa_nil))))))
      (pss_one (ps_ret (pv 2))))), ?_⟩
    refine ⟨Nat.zero_le _, fun fa hfa => ?_⟩
    have nfp : fa ≠ p := fun z => ((Fm.box p).lv H p ok.j rfl).ne (z ▸ hfa)
    refine ⟨.ref l, rfl, l, rfl, .inl ⟨⟨xs, ex_l (ok.e.trans (Ex.new hfa)) (sq_of h1)⟩, for_list (K := K) (xs := xs) (fun i σ' H' => (∃ o, σ' = [some (.ref p), some (.ref l), some (.ref fa), o]) ∧ ∃ rs', rs'.Perm (rs.take i) ∧ Cq (Fm.box p) K B H fa rs' H') ⟨⟨none, rfl⟩, [], List.Perm.refl _, cq_start ok hfa⟩ (fun i σ' H' _ ⟨_, rs', _, B', acc, s', k', _⟩ => ex_l (s'.bb.trans k'.e) (sq_of h1)) (fun i x σ' H' hi ⟨⟨o, ho⟩, rs', hp, B', acc, s', k', hb, hd, ha⟩ => ?_) (fun σ' H' ⟨⟨o, ho⟩, rs', hp, c⟩ => ?_)⟩⟩
    · subst ho
      obtain ⟨r, hr1, hr2⟩ := hx.getv hi
      have hlt : i < rs.length := (List.getElem?_eq_some_iff.mp hr1).1
      have hlen : rs'.length = i := by
        rw [hp.length_eq, List.length_take]
        omega
      have hacc : acc.length = i := by rw [ha.len, hlen]
      refine ⟨.ref fa, rfl, .inl ⟨rfl, _, sq_of hd⟩, ?_⟩
      refine ⟨.ref p, rfl, ⟨.ref fa, rfl, ⟨.ref fa, acc.length, rfl, .inl ⟨_, sq_of hd, rfl⟩, .inl ⟨_, 1, rfl, rfl, ?_⟩⟩⟩⟩
      refine ⟨p, [.int ((acc.length : Nat) + 1)], B', [.int ((acc.length : Nat) + 1)], rfl, k', .cons (.int _) .nil, ⟨_, rfl, by omega, by omega⟩, fun vj B4 H4 s4 k4 ⟨j, m, em, ej, j0, j1⟩ => ?_⟩
      cases em
      subst ej
      refine ⟨x, rfl, ?_⟩
      have hd4 : H4 fa = some (.lst acc) := s4.keep fa _ nfp hd
      refine ⟨fa, acc, j, x, rfl, rfl, hd4, by rw [sizeLine_eq]; omega, j0, by omega, ?_⟩
      have hb4 : B4 fa = none := s4.sep fa hb ⟨_, hd, trivial⟩
      have c := cq_set (acc' := acc.take j.toNat ++ [x] ++ acc.drop j.toNat) (ds' := rs'.take j.toNat ++ [r] ++ rs'.drop j.toNat) hfa ok (s'.trans s4) k4 hb4 (DdAll.ins (ha.up s4.bb) (hr2.up (s'.bb.trans s4.bb)) j.toNat)
      refine ⟨⟨_, rfl⟩, _, ?_, c⟩
      rw [take_snoc hr1]
      exact (ins_perm _ _ _).trans (hp.append_right [r])
    · subst ho
      refine ⟨.ref fa, rfl, ?_⟩
      rw [hx.len, List.take_length] at hp
      obtain ⟨B2, s2, k2, g2⟩ := cq_done ok hfa (by rw [hp.length_eq]; omega) c
      exact q _ B2 H' rs' s2 k2 g2 hp
end
end K50

namespace K50
open PySem PySem.Spec PyProof.Rows L2 Evl Ex Dx
open PySem.PyData (strOk)

section
variable {P : Program} {w : World} {K : PySem.W.Frag} {mg : Str → Option Value} {base : Heap} {f : Addr} {fd : FuncData}

abbrev W4 : List Str := ["a", "ab", "b", "aab", "c", "q"]
abbrev L8 : List Str := ["left", "right", "wrap", "ahead", "behind", "same", "first", "last"]
def RG (n : Nat) (r : PyData) : Prop := ruleD r n = true ∧ smD 1 r = true
theorem inS_iff {s : Str} {L : List Str} : inS s L = true ↔ s ∈ L := by
  unfold inS
  rw [List.any_eq_true]
  constructor
  · rintro ⟨x, hx, he⟩
    rw [beq_iff_eq] at he
    exact he ▸ hx
  · intro h
    exact ⟨s, h, beq_self_eq_true s⟩
theorem w4_ok : ∀ u ∈ W4, wordD (.str u) = true ∧ u ∈ L12 ∧ u.length ≤ 10 := by decide +kernel
theorem l8_ok : ∀ u ∈ L8, u ∈ L12 ∧ u.length ≤ 10 ∧ (u ∈ WSH ∨ u ∈ TSH ∨ u ∈ OSH) ∧ (u ∈ OSH → inS u WSH = false) ∧ (u ∈ TSH → inS u WSH = false ∧ inS u OSH = false) := by decide +kernel
theorem inB_ok {k : Int} {n : Nat} (h0 : 0 ≤ k) (h1 : k < (n : Nat)) : inB (.int k) 0 ((n : Nat) - 1) = true := by
  unfold inB
  simp only [Bool.and_eq_true, decide_eq_true_eq]
  omega
theorem atomI {k : Int} {n : Nat} (hn : n ≤ 8) (h0 : 0 ≤ k) (h1 : k < (n : Nat)) : atomD (.int k) = true := by
  show (decide (0 ≤ k) && decide (k ≤ 40)) = true
  rw [Bool.and_eq_true, decide_eq_true_eq, decide_eq_true_eq]
  omega
theorem atomS {s : Str} (h : s ∈ L12) : atomD (.str s) = true := List.contains_iff_mem.mpr h
theorem sm1 {xs : List PyData} (hl : xs.length ≤ 20) (h : ∀ x ∈ xs, atomD x = true) : smD 1 (.tuple xs) = true := by
  show (atomD (.tuple xs) || (decide (xs.length ≤ 3000) && xs.all (smD 0))) = true
  have e : xs.all (smD 0) = true := List.all_eq_true.mpr fun x hx => h x hx
  rw [decide_eq_true (show xs.length ≤ 3000 by omega), e, Bool.true_and, Bool.or_true]
theorem rg_word {n : Nat} {k : Int} {wd u : Str} (hn : n ≤ 8) (h0 : 0 ≤ k) (h1 : k < (n : Nat)) (hw : wd ∈ WSH) (h8 : wd ∈ L8) (hu : u ∈ W4) : RG n (.tuple [.int k, .str wd, .str u]) := by
  refine ⟨?_, sm1 (by show 3 ≤ 20; decide) fun x hx => ?_⟩
  · show (inB (.int k) 0 ((n : Nat) - 1) && tailD wd [.str u] n) = true
    rw [inB_ok h0 h1]
    unfold tailD
    rw [if_pos (inS_iff.mpr hw)]
    show (true && (decide (1 = 1) && wordD (.str u))) = true
    rw [(w4_ok u hu).1]
    rfl
  · simp only [List.mem_cons, List.mem_nil_iff, or_false] at hx
    rcases hx with rfl | rfl | rfl
    · exact atomI hn h0 h1
    · exact atomS (l8_ok wd h8).1
    · exact atomS (w4_ok u hu).2.1
theorem rg_one {n : Nat} {k c : Int} {wd : Str} (hn : n ≤ 8) (h0 : 0 ≤ k) (h1 : k < (n : Nat)) (hw : wd ∈ OSH) (h8 : wd ∈ L8) (c0 : 0 ≤ c) (c1 : c < (n : Nat)) : RG n (.tuple [.int k, .str wd, .int c]) := by
  refine ⟨?_, sm1 (by show 3 ≤ 20; decide) fun x hx => ?_⟩
  · show (inB (.int k) 0 ((n : Nat) - 1) && tailD wd [.int c] n) = true
    rw [inB_ok h0 h1]
    unfold tailD
    rw [(l8_ok wd h8).2.2.2.1 hw, if_neg (by decide), if_pos (inS_iff.mpr hw)]
    show (true && (decide (1 = 1) && inB (.int c) 0 ((n : Nat) - 1))) = true
    rw [inB_ok c0 c1]
    rfl
  · simp only [List.mem_cons, List.mem_nil_iff, or_false] at hx
    rcases hx with rfl | rfl | rfl
    · exact atomI hn h0 h1
    · exact atomS (l8_ok wd h8).1
    · exact atomI hn c0 c1
theorem rg_two {n : Nat} {k c d : Int} {wd : Str} (hn : n ≤ 8) (h0 : 0 ≤ k) (h1 : k < (n : Nat)) (hw : wd ∈ TSH) (h8 : wd ∈ L8) (c0 : 0 ≤ c) (c1 : c < (n : Nat)) (d0 : 0 ≤ d) (d1 : d < (n : Nat)) : RG n (.tuple [.int k, .str wd, .int c, .int d]) := by
  refine ⟨?_, sm1 (by show 4 ≤ 20; decide) fun x hx => ?_⟩
  · show (inB (.int k) 0 ((n : Nat) - 1) && tailD wd [.int c, .int d] n) = true
    rw [inB_ok h0 h1]
    unfold tailD
    rw [((l8_ok wd h8).2.2.2.2 hw).1, ((l8_ok wd h8).2.2.2.2 hw).2, if_neg (by decide), if_neg (by decide), inS_iff.mpr hw, List.all_cons, List.all_cons, inB_ok c0 c1, inB_ok d0 d1]
    rfl
  · simp only [List.mem_cons, List.mem_nil_iff, or_false] at hx
    rcases hx with rfl | rfl | rfl | rfl
    · exact atomI hn h0 h1
    · exact atomS (l8_ok wd h8).1
    · exact atomI hn c0 c1
    · exact atomI hn d0 d1
theorem flat_atom {x : PyData} (h : atomD x = true) : flatD x = true := by
  rcases atom_is h with ⟨i, rfl, _⟩ | ⟨s, rfl, _⟩ <;> rfl
theorem RG.flat {n : Nat} {r : PyData} (h : RG n r) : ∃ xs, r = .tuple xs ∧ xs.all flatD = true := by
  obtain ⟨a, s, p, ps, rfl, _⟩ := ruleD_is h.1
  rcases smD_is h.2 with h1 | ⟨ds, e, _, h2⟩
  · cases h1
  · cases e
    exact ⟨_, rfl, List.all_eq_true.mpr fun x hx => flat_atom (h2 x hx)⟩
structure GR (n : Nat) (rs : List PyData) : Prop where
  len : rs.length ≤ 9
  ok : ∀ r ∈ rs, RG n r
  bk : backK (edges rs) n = none
theorem GR.ruleD {n : Nat} {rs : List PyData} (h : GR n rs) (r : PyData) (hr : r ∈ rs) : ruleD r n = true := (h.ok r hr).1
theorem edges_app (rs : List PyData) (r : PyData) : edges (rs ++ [r]) = edges rs ++ (if isOne r = true then [edge r] else []) := by
  unfold edges
  rw [List.filter_append, List.map_append]
  congr 1
  by_cases h : isOne r = true
  · rw [if_pos h, List.filter_cons, if_pos h]
    rfl
  · rw [if_neg h, List.filter_cons, if_neg h]
    rfl
theorem GR.snoc0 {n : Nat} {rs : List PyData} {r : PyData} (h : GR n rs) (hl : rs.length < 9) (hr : RG n r) (ho : isOne r = false) : GR n (rs ++ [r]) := ⟨by rw [List.length_append]; show rs.length + 1 ≤ 9; omega, fun x hx => by
  rcases List.mem_append.mp hx with h1 | h1
  · exact h.ok x h1
  · rw [List.mem_singleton.mp h1]
    exact hr, by
  rw [edges_app, ho, if_neg (by decide), List.append_nil]
  exact h.bk⟩
theorem GR.snoc1 {n : Nat} {rs : List PyData} {r : PyData} (h : GR n rs) (hl : rs.length < 9) (hr : RG n r) (ho : backK (edges (rs ++ [r])) n = none) : GR n (rs ++ [r]) := ⟨by rw [List.length_append]; show rs.length + 1 ≤ 9; omega, fun x hx => by
  rcases List.mem_append.mp hx with h1 | h1
  · exact h.ok x h1
  · rw [List.mem_singleton.mp h1]
    exact hr, ho⟩
theorem GR.perm {n : Nat} {rs rs' : List PyData} (h : GR n rs) (p : rs'.Perm rs) : GR n rs' := by
  have hok : ∀ r ∈ rs', RG n r := fun r hr => h.ok r (p.mem_iff.mp hr)
  refine ⟨by rw [p.length_eq]; exact h.len, hok, ?_⟩
  have pe : (edges rs').Perm (edges rs) := (p.filter isOne).map edge
  have b1 := backK_bk (E := edges rs) (n := n) fun a b hab => by
    have := edges_in (n := (n : Nat)) (fun r hr => (h.ok r hr).1) a b hab
    exact ⟨this.2.2.1, this.2.2.2⟩
  have b2 := backK_bk (E := edges rs') (n := n) fun a b hab => by
    have := edges_in (n := (n : Nat)) (fun r hr => (hok r hr).1) a b hab
    exact ⟨this.2.2.1, this.2.2.2⟩
  rw [(b2.ext fun q => pe.mem_iff).uniq b1]
  exact h.bk
def spGram (K : PySem.W.Frag) : Sp := fun vs H Q _ => ∃ (a : Addr) (ns : List Int) (B : Hp), vs = [.ref a, .int 9] ∧ Ex B H ∧ SqL K B a (ns.map V.int) ∧ ns.length ≤ 63 ∧
  ∀ v B' H' (n : Nat) (rs : List PyData), Step (fun _ => False) B H B' H' → Dd K B' v (.tuple [.int (n : Nat), .tuple rs]) → 1 ≤ n → n ≤ 8 → rs ≠ [] → GR n rs → Q v H'
theorem step_box {p : Addr} {B H B1 H1 B2 H2 : Hp} (hp : H p = none) (s1 : Step (fun _ => False) B H B1 H1) (s2 : Step (fun a => a = p) B1 H1 B2 H2) : Step (fun _ => False) B H B2 H2 :=
  ⟨s1.bb.trans s2.bb, s2.bh, fun a o _ h => s2.keep a o (fun z => ne_of_none h hp z) (s1.keep a o (fun z => z) h), fun a h n => s2.sep a (s1.sep a h n) (s1.liv a n), fun a n => s2.live a (s1.live a n), fun a n => s2.liv a (s1.liv a n)⟩
theorem cq_pass {F : Fm} {B1 H1 B' H' B4 H4 : Hp} {fa : Addr} {acc : List V} {ds : List PyData} (hD : H1 fa = none) (k1 : Ok F B1 H1) (s : Step F.M B1 H1 B' H') (hb : B' fa = none) (hd : H' fa = some (.lst acc)) (ha : DdAll K B' acc ds) (s4 : Step F.M B' H' B4 H4) (k4 : Ok F B4 H4) : Cq F K B1 H1 fa ds H4 := by
  have nm : ¬ F.M fa := fun m => (F.lv H1 fa k1.j m).ne hD
  exact ⟨B4, acc, s.trans s4, k4, s4.sep fa hb ⟨_, hd, trivial⟩, s4.keep fa _ nm hd, ha.up s4.bb⟩
def pK (i : Int) (r : PyData) : Bool := match r with
  | .tuple (x :: .str s :: _) => PyData.eqv x (.int i) && inS s WSH
  | _ => false
theorem evp_take {p : Addr} {σ : L2.St} {B : Hp} {i : Nat} {ta : TE} {E : XK} {m : Int} (hi : σ[i]? = some (some (.ref p))) (ha : ED (Fm.box p) K ta σ B (.int m)) (h0 : 0 < m) (h1 : m < 1073741824) : EV (Fm.box p) (tCall (spTake K) [] E (tCons (tVar i) (tCons ta tNil))) σ B (fun v B => ∃ n : Int, Dd K B v (.int n) ∧ 0 ≤ n ∧ n < m) := (ev_take hi ha h0 h1).imp fun v B1 _ ⟨n, hv, g0, g1⟩ => ⟨n, by rw [hv]; exact .int n, g0, g1⟩
/-- a pair, a triple whose parts are known up to a choice -/
theorem ev_tup3 {F : Fm} {σ : L2.St} {B : Hp} {ta tb tc : TE} {Pa Pb Pc : PyData → Prop} (ha : EV F ta σ B (fun v B => ∃ d, Dd K B v d ∧ Pa d)) (hb : EV F tb σ B (fun v B => ∃ d, Dd K B v d ∧ Pb d)) (hc : EV F tc σ B (fun v B => ∃ d, Dd K B v d ∧ Pc d)) :
    EV F (tTup (tCons ta (tCons tb (tCons tc tNil)))) σ B (fun v B => ∃ x y z, Dd K B v (.tuple [x, y, z]) ∧ Pa x ∧ Pb y ∧ Pc z) := fun B1 e0 H j Q q =>
  ha B1 e0 H j _ fun va B2 H2 s2 j2 ⟨x, h2, px⟩ => hb B2 (e0.trans s2.bb) H2 j2 _ fun vb B3 H3 s3 j3 ⟨y, h3, py⟩ => hc B3 ((e0.trans s2.bb).trans s3.bb) H3 j3 _ fun vc B4 H4 s4 j4 ⟨z, h4, pz⟩ =>
    ⟨by show 3 ≤ sizeLine; decide, fun p hp => q (.ref p) _ _ (((s2.trans s3).trans s4).trans (Step.alloc j4.e hp)) (j4.alloc hp) ⟨x, y, z, .tup (ta_of upd_same) (by show 3 ≤ sizeLine; decide) (.cons ((h2.up (s3.bb.trans s4.bb)).up (Ex.new (fresh_back j4.e hp))) (.cons ((h3.up s4.bb).up (Ex.new (fresh_back j4.e hp))) (.cons (h4.up (Ex.new (fresh_back j4.e hp))) .nil))), px, py, pz⟩⟩
theorem ev_any {F : Fm} {σ : L2.St} {B : Hp} {te : TE} {d : PyData} (h : ED F K te σ B d) : EV F te σ B (fun v B => ∃ e, Dd K B v e ∧ e = d) := h.imp fun v B1 _ hv => ⟨d, hv, rfl⟩
theorem ev_tup1 {F : Fm} {σ : L2.St} {B : Hp} {ta : TE} {Pa : PyData → Prop} (ha : EV F ta σ B (fun v B => ∃ d, Dd K B v d ∧ Pa d)) : EV F (tTup (tCons ta tNil)) σ B (fun v B => ∃ x, Dd K B v (.tuple [x]) ∧ Pa x) := fun B1 e0 H j Q q =>
  ha B1 e0 H j _ fun va B2 H2 s2 j2 ⟨x, h2, px⟩ => ⟨by show 1 ≤ sizeLine; decide, fun p hp => q (.ref p) _ _ (s2.trans (Step.alloc j2.e hp)) (j2.alloc hp) ⟨x, .tup (ta_of upd_same) (by show 1 ≤ sizeLine; decide) (.cons (h2.up (Ex.new (fresh_back j2.e hp))) .nil), px⟩⟩
theorem strs_len : ∀ L : List Str, (L.map PyData.str).length = L.length := fun L => List.length_map _

abbrev s_law_grammar : Stmt := topS 113
abbrev N_law_grammar : List Str := ["script", "most", "box", "kinds", "words", "rules", "k", "kind", "word", "rule"]
theorem sc_law_grammar : FnScope N_law_grammar ["script", "most"] (defScope s_law_grammar) := ⟨rfl, rfl, rfl, by decide +kernel, rfl, by decide +kernel, by decide +kernel⟩
theorem ok_grammar (F : Fun K "_law_grammar" "_law_grammar" s_law_grammar f fd) (T : TC K mg) (C_law_box : Callee P w K mg base "_law_box" 1 ["script", "k"] (spBoxN K)) (C_law_take : Callee P w K mg base "_law_take" 1 ["box", "many"] (spTake K)) (C_law_pick : Callee P w K mg base "_law_pick" 2 ["box", "some"] (spPick K))
    (C_law_unary : Callee P w K mg base "_law_unary" 1 ["rules"] (spF K preUn fUn)) (C_law_back_kind : Callee P w K mg base "_law_back_kind" 1 ["steps", "kinds"] (spF K preBack fBack)) (C_law_shuffled : Callee P w K mg base "_law_shuffled" 2 ["box", "some"] (spShuf K)) : FnOk P w K mg base CX0 3 f fd ["script", "most"] (spGram K) := by
  refine F.ok sc_law_grammar (fun vs H Q E h => ?_) (fun cdv A outer s H vs Q E hr h => ?_)
  · obtain ⟨a, ns, B, rfl, _⟩ := h
    rfl
  · obtain ⟨a, ns, B, rfl, e, hS, hl, q⟩ := h
    have hu64 : (A.deeper (envOfC "_law_grammar" (defScope s_law_grammar) s.heap.objs.size f cdv)).units + 64 < cLine := hr.units
    refine ⟨_, (pss_cons (ps_set (i := 2) sc_law_grammar.nd rfl (Or.inl rfl) (pe_callC C_law_box (hr.mono (by decide)) rfl pass0 (pa_cons (pv 0) (pa_cons pe_int pa_nil))))
      (pss_cons (ps_set (i := 3) sc_law_grammar.nd rfl (Or.inl rfl) (pe_callC C_law_pick (hr.mono (by decide)) rfl pass0 (pa_cons (pv 2) (pa_cons (pe_lst (pa_cons pe_int (pa_cons pe_int (pa_cons pe_int (pa_cons pe_int (pa_cons pe_int (pa_cons pe_int (pa_cons pe_int (pa_cons pe_int pa_nil))))))))) pa_nil))))
      (pss_cons (ps_set (i := 4) sc_law_grammar.nd rfl (Or.inl rfl) (pe_callC C_law_pick (hr.mono (by decide)) rfl pass0 (pa_cons (pv 2) (pa_cons (pe_lst (pa_cons (pe_lst (pa_cons pe_str pa_nil)) (pa_cons (pe_lst (pa_cons pe_str (pa_cons pe_str pa_nil))) (pa_cons (pe_lst (pa_cons pe_str (pa_cons pe_str (pa_cons pe_str pa_nil)))) (pa_cons (pe_lst (pa_cons pe_str (pa_cons pe_str pa_nil))) pa_nil))))) pa_nil))))
      (pss_cons (ps_set (i := 5) sc_law_grammar.nd rfl (Or.inl rfl) (pe_lst pa_nil))
      (pss_cons (ps_for PassesOwn.never rfl (pi_range1 rfl T.m_range (pa_cons (pe_op (op_addK K) pe_int (pe_callC C_law_take (hr.mono (by decide)) rfl pass0 (pa_cons (pv 2) (pa_cons (pe_op op_sub (pv 1) pe_int) pa_nil)))) pa_nil)) (pg_name (i := 6) sc_law_grammar.nd rfl (Or.inl rfl)) (pss_cons (ps_set (i := 7) sc_law_grammar.nd rfl (Or.inr rfl) (pe_callC C_law_take (hr.mono (by decide)) rfl pass0 (pa_cons (pv 2) (pa_cons (pv 3) pa_nil))))
      (pss_cons (ps_set (i := 8) sc_law_grammar.nd rfl (Or.inl rfl) (pe_callC C_law_pick (hr.mono (by decide)) rfl pass0 (pa_cons (pv 2) (pa_cons (pe_lst (pa_cons pe_str (pa_cons pe_str (pa_cons pe_str (pa_cons pe_str (pa_cons pe_str (pa_cons pe_str (pa_cons pe_str (pa_cons pe_str (pa_cons pe_str (pa_cons pe_str (pa_cons pe_str pa_nil)))))))))))) pa_nil))))
      (pss_cons (ps_set (i := 9) sc_law_grammar.nd rfl (Or.inl rfl) (pe_tup (pa_cons (pv 7) (pa_cons (pv 8) (pa_cons (pe_callC C_law_take (hr.mono (by decide)) rfl pass0 (pa_cons (pv 2) (pa_cons (pv 3) pa_nil))) pa_nil)))))
      (Evl.pss_cut (ps_if (pt_cmpR (op_inK K) (pv 8) (pe_lst (pa_cons pe_str (pa_cons pe_str pa_nil))) (by rfl)) (pss_one (ps_set (i := 9) sc_law_grammar.nd rfl (Or.inl rfl) (pe_tup (pa_cons (pv 7) (pa_cons (pv 8) (pa_cons (pe_callC C_law_pick (hr.mono (by decide)) rfl pass0 (pa_cons (pv 2) (pa_cons (pv 4) pa_nil))) pa_nil)))))) (pss_one (ps_if (pt_cmpR (op_inK K) (pv 8) (pe_lst (pa_cons pe_str (pa_cons pe_str (pa_cons pe_str pa_nil)))) (by rfl)) (pss_one (ps_set (i := 9) sc_law_grammar.nd rfl (Or.inl rfl) (pe_op (op_addK K) (pv 9) (pe_tup (pa_cons (pe_callC C_law_take (hr.mono (by decide)) rfl pass0 (pa_cons (pv 2) (pa_cons (pv 3) pa_nil))) pa_nil))))) pss_nil)))
      (pss_one (ps_if (pt_cmpR op_isN (pe_callC C_law_back_kind (hr.mono (by decide)) rfl pass0 (pa_cons (pe_callC C_law_unary (hr.mono (by decide)) rfl pass0 (pa_cons (pe_op (op_addK K) (pv 5) (pe_lst (pa_cons (pv 9) pa_nil))) pa_nil)) (pa_cons (pv 3) pa_nil))) pe_non (nomark _)) (pss_one (ps_expr (pe_bm PySem.F.plainAttrs_list PySem.F.slot_list_append PySem.F.type_list_append mt_append (pv 5) (pa_cons (pv 9) pa_nil)))) pss_nil)))))))
      (Evl.pss_cut (ps_if (pt_cmpR op_gt (pe_callC C_law_take (hr.mono (by decide)) rfl pass0 (pa_cons (pv 2) (pa_cons pe_int pa_nil))) pe_int (nomark _)) (pss_one (ps_for PassesOwn.never rfl (pi_range1 rfl T.m_range (pa_cons (pv 3) pa_nil)) (pg_name (i := 7) sc_law_grammar.nd rfl (Or.inr rfl)) (pss_one (ps_if (PW.pt (pw_and (pt_cmpR op_lt (pe_callB (call_lenK K) (by rfl) T.m_len bt_len (pa_cons (pv 5) pa_nil)) (pv 1) (nomark _)) (pw_and1 (pt_cmpR (op_eqDK K hu64) (pe_lc (own := [("rule", 9)]) rfl sc_law_grammar.nd (pi_seqK K (pv 5)) (blkOk_by (own := [("rule", 9)]) (N := N_law_grammar) (sc := defScope s_law_grammar) (by decide +kernel)) (fun _ _ _ _ _ => pg_name (i := 9) sc_law_grammar.nd rfl (Or.inl rfl)) (fun _ _ _ _ _ => (pts_one (PW.pt (pw_and (pt_cmpR (op_eqDK K hu64) (pe_ix (ix_seqK K) (pv 9) pe_int (fun _ _ => rfl)) (pv 7) (nomark _)) (pw_and1 (pt_cmpR (op_inK K) (pe_ix (ix_seqK K) (pv 9) pe_int (fun _ _ => rfl)) (pe_lst (pa_cons pe_str (pa_cons pe_str pa_nil))) (by rfl))))))) (fun _ _ _ _ _ => (pv 9))) (pe_lst pa_nil) (nomark _))))) (pss_one (ps_expr (pe_bm PySem.F.plainAttrs_list PySem.F.slot_list_append PySem.F.type_list_append mt_append (pv 5) (pa_cons (pe_tup (pa_cons (pv 7) (pa_cons (pe_callC C_law_pick (hr.mono (by decide)) rfl pass0 (pa_cons (pv 2) (pa_cons (pe_lst (pa_cons pe_str (pa_cons pe_str pa_nil))) pa_nil))) (pa_cons (pe_callC C_law_pick (hr.mono (by decide)) rfl pass0 (pa_cons (pv 2) (pa_cons (pv 4) pa_nil))) pa_nil)))) pa_nil)))) pss_nil)))) pss_nil)
      (Evl.pss_cut (ps_if (pt_cmpR (op_eqDK K hu64) (pv 5) (pe_lst pa_nil) (nomark _)) (pss_one (ps_set (i := 5) sc_law_grammar.nd rfl (Or.inl rfl) (pe_lst (pa_cons (pe_tup (pa_cons pe_int (pa_cons pe_str (pa_cons pe_str pa_nil)))) pa_nil)))) pss_nil)
      (pss_one (ps_ret (pe_tup (pa_cons (pv 3) (pa_cons (pe_callTy call_tuple_of (by rfl) T.m_tuple bt_tuple (pa_cons (pe_callC C_law_shuffled (hr.mono (by decide)) rfl pass0 (pa_cons (pv 2) (pa_cons (pv 5) pa_nil))) pa_nil)) pa_nil)))))))))))), ?_⟩
    refine ⟨.ref a, rfl, a, 0, ns, B, rfl, e, hS, hl, by decide, by decide, fun p B1 H1 hp s1 k1 => ?_⟩
    have a1 : At (Fm.box p) B1 H1 B1 H1 := At.start k1
    refine qv_asg (P := fun v _ => ∃ n : Nat, v = .int (n : Nat) ∧ 1 ≤ n ∧ n ≤ 8) a1 ((ev_pick (d := .list [.int 1, .int 2, .int 2, .int 3, .int 3, .int 4, .int 6, .int 8]) rfl (ed_lst (eds_cons ed_int (eds_cons ed_int (eds_cons ed_int (eds_cons ed_int (eds_cons ed_int (eds_cons ed_int (eds_cons ed_int (eds_cons ed_int eds_nil))))))))) (.inl rfl) (fun z => nomatch z) (by show 8 < 1073741824; decide)).imp fun v B1 _ ⟨x, hx, hv⟩ => by
      simp only [List.mem_cons, List.mem_nil_iff, or_false] at hx
      rcases hx with rfl | rfl | rfl | rfl | rfl | rfl | rfl | rfl
      · exact ⟨1, dd_int hv, by decide, by decide⟩
      · exact ⟨2, dd_int hv, by decide, by decide⟩
      · exact ⟨2, dd_int hv, by decide, by decide⟩
      · exact ⟨3, dd_int hv, by decide, by decide⟩
      · exact ⟨3, dd_int hv, by decide, by decide⟩
      · exact ⟨4, dd_int hv, by decide, by decide⟩
      · exact ⟨6, dd_int hv, by decide, by decide⟩
      · exact ⟨8, dd_int hv, by decide, by decide⟩) fun vn B2 H2 e2 a2 ⟨n, hn, n1, n8⟩ => ?_
    subst hn
    refine qv_asg (P := fun v B => ∃ ws : List Str, Dd K B v (.list (ws.map .str)) ∧ ws ≠ [] ∧ ws.length ≤ 3 ∧ ∀ u ∈ ws, u ∈ W4) a2 ((ev_pick (d := .list [.list ((["a"] : List Str).map .str), .list ((["a", "ab"] : List Str).map .str), .list ((["a", "ab", "b"] : List Str).map .str), .list ((["b", "aab"] : List Str).map .str)]) rfl (ed_lst (eds_cons (ed_lst (eds_cons ed_str eds_nil)) (eds_cons (ed_lst (eds_cons ed_str (eds_cons ed_str eds_nil))) (eds_cons (ed_lst (eds_cons ed_str (eds_cons ed_str (eds_cons ed_str eds_nil)))) (eds_cons (ed_lst (eds_cons ed_str (eds_cons ed_str eds_nil))) eds_nil))))) (.inl rfl) (fun z => nomatch z) (by show 4 < 1073741824; decide)).imp fun v B1 _ ⟨x, hx, hv⟩ => by
      simp only [List.mem_cons, List.mem_nil_iff, or_false] at hx
      rcases hx with rfl | rfl | rfl | rfl
      · exact ⟨_, hv, fun z => (nomatch z), by decide, by decide +kernel⟩
      · exact ⟨_, hv, fun z => (nomatch z), by decide, by decide +kernel⟩
      · exact ⟨_, hv, fun z => (nomatch z), by decide, by decide +kernel⟩
      · exact ⟨_, hv, fun z => (nomatch z), by decide, by decide +kernel⟩) fun vw B3 H3 e3 a3 ⟨ws, hw, hw0, hw3, hwm⟩ => ?_
    refine ⟨Nat.zero_le _, fun fa hfa => ?_⟩
    have k3 := a3.j
    have nfp : fa ≠ p := fun z => ((Fm.box p).lv H3 p k3.j rfl).ne (z ▸ hfa)
    have pickw : ∀ (σ : L2.St) B5, σ[2]? = some (some (V.ref p)) → σ[4]? = some (some vw) → Ex B3 B5 → EV (Fm.box p) (tCall (spPick K) [] E0 (tCons (tVar 2) (tCons (tVar 4) tNil))) σ B5 (fun v B => ∃ d, Dd K B v d ∧ ∃ u, d = .str u ∧ u ∈ W4) := fun σ B5 h2 h4 e5 => (ev_pick (d := .list (ws.map .str)) h2 (ed_var h4 (hw.up e5)) (.inl rfl) (fun z => hw0 (List.map_eq_nil_iff.mp z)) (by rw [List.length_map]; omega)).imp fun v B1 _ ⟨x, hx, hv⟩ => by
      obtain ⟨u, hu, rfl⟩ := List.mem_map.mp hx
      exact ⟨_, hv, u, rfl, hwm u hu⟩
    have takek : ∀ (σ : L2.St) B5, σ[2]? = some (some (V.ref p)) → σ[3]? = some (some (V.int (n : Nat))) → EV (Fm.box p) (tCall (spTake K) [] E0 (tCons (tVar 2) (tCons (tVar 3) tNil))) σ B5 (fun v B => ∃ d, Dd K B v d ∧ ∃ c : Int, d = .int c ∧ 0 ≤ c ∧ c < (n : Nat)) := fun σ B5 h2 h3 => (ev_take h2 (ed_var h3 (.int (n : Nat))) (by omega) (by omega)).imp fun v B1 _ ⟨c, hc, c0, c1⟩ => ⟨.int c, by rw [hc]; exact .int c, c, rfl, c0, c1⟩
    obtain ⟨B', acc, s', k', hb, hd, ha⟩ := cq_start (K := K) k3 hfa
    have evr : EV (Fm.box p) (tOp (rAddA K) (tC (.int 2)) (tCall (spTake K) [] E0 (tCons (tVar 2) (tCons (tOp (rI0 fun i j => .int (i - j)) (tVar 1) (tC (.int 1))) tNil)))) [some (.ref a), some (.int 9), some (.ref p), some (.int (n : Nat)), some vw, some (.ref fa), none, none, none, none] B' (fun v _ => ∃ m : Int, v = .int m ∧ 0 ≤ m ∧ m ≤ 9) := ev_op (P := DD K (.int 2)) (P' := fun v _ => ∃ m : Int, v = .int m ∧ 0 ≤ m ∧ m < 8) ed_int (ev_take (m := 8) rfl (ed_op (ed_var rfl (.int 9)) ed_int rd_sub) (by decide) (by decide)) upc_dd fun B6 _ H6 u v j6 hu ⟨m, hv, m0, m1⟩ Q q => .inl ⟨2, m, dd_int hu, hv, q _ B6 H6 (Step.refl j6.e) j6 ⟨2 + m, rfl, by omega, by omega⟩⟩
    refine evr B' (Ex.refl B') _ k' _ fun vm B4 H4 s4 k4 ⟨m, hm, m0, m9⟩ => ?_
    subst hm
    refine ⟨m, rfl, by omega, by omega, for_range (lo := 0) (n := m.toNat) (fun i σ' H' => (∃ o6 o7 o8 o9, σ' = [some (.ref a), some (.int 9), some (.ref p), some (.int (n : Nat)), some vw, some (.ref fa), o6, o7, o8, o9]) ∧ ∃ rs, rs.length ≤ i ∧ GR n rs ∧ Cq (Fm.box p) K B3 H3 fa rs H') ⟨⟨_, _, _, _, rfl⟩, [], Nat.le_refl _, ⟨by decide, fun r h => (nomatch h), backK_none fun k hk => ?_⟩, cq_pass hfa k3 s' hb hd ha s4 k4⟩ (fun i σ' H' hi ⟨⟨o6, o7, o8, o9, ho⟩, rs, hri, G, B', acc, s', k', hb, hd, ha⟩ => ?_) (fun σ' H' ⟨⟨o6, o7, o8, o9, ho⟩, rs, hri, G, c⟩ => ?_)⟩
    · cases hh : (Gm.turns (edges []) (k : Int) (n + 1)).contains (k : Int) with
      | false => rfl
      | true =>
        have h1 := Gm.turns_sound _ _ (List.contains_iff_mem.mp hh)
        cases h1 with
        | one e => cases e
        | more _ e => cases e
    · subst ho
      have hlt : rs.length < 9 := by omega
      obtain ⟨kx, dx⟩ := cq_open hfa k3 k' hb hd ha (by omega)
      have eB3 : Ex B3 (upd B' fa (.lst acc)) := s'.bb.trans (Ex.new hb)
      have aX : At (Fm.box p) (upd B' fa (.lst acc)) H' (upd B' fa (.lst acc)) H' := At.start kx
      refine qv_asg aX (takek _ _ rfl rfl) fun vk B5 H5 e5 a5 hh5 => ?_
      obtain ⟨_, hk, k, rfl, k0, k1'⟩ := hh5
      obtain rfl := dd_int hk
      refine qv_asg (P := fun v _ => ∃ wd : Str, v = .str wd ∧ wd ∈ L8) a5 ((ev_pick (d := .list ((["left", "right", "wrap", "wrap", "ahead", "behind", "left", "right", "same", "first", "last"] : List Str).map .str)) rfl (ed_lst (eds_cons ed_str (eds_cons ed_str (eds_cons ed_str (eds_cons ed_str (eds_cons ed_str (eds_cons ed_str (eds_cons ed_str (eds_cons ed_str (eds_cons ed_str (eds_cons ed_str (eds_cons ed_str eds_nil)))))))))))) (.inl rfl) (fun z => nomatch z) (by show 11 < 1073741824; decide)).imp fun v B1 _ ⟨x, hx, hv⟩ => by
        obtain ⟨u, hu, rfl⟩ := List.mem_map.mp hx
        exact ⟨u, (dd_str hv).1, (by decide +kernel : ∀ u ∈ (["left", "right", "wrap", "wrap", "ahead", "behind", "left", "right", "same", "first", "last"] : List Str), u ∈ L8) u hu⟩) fun vwd B6 H6 e6 a6 ⟨wd, hwd, h8⟩ => ?_
      subst hwd
      have l8 := l8_ok wd h8
      have wl : wd.length ≤ sizeLine := by rw [sizeLine_eq]; have := l8.2.1; omega
      have edk : ∀ (σ : L2.St) B7, σ[7]? = some (some (V.int k)) → EV (Fm.box p) (tVar 7) σ B7 (fun v B => ∃ d, Dd K B v d ∧ d = .int k) := fun σ B7 h7 => ev_any (ed_var h7 (.int k))
      have edw : ∀ (σ : L2.St) B7, σ[8]? = some (some (V.str wd)) → EV (Fm.box p) (tVar 8) σ B7 (fun v B => ∃ d, Dd K B v d ∧ d = .str wd) := fun σ B7 h7 => ev_any (ed_var h7 (.str wd wl))
      refine qv_asg a6 (ev_tup3 (edk _ _ rfl) (edw _ _ rfl) (takek _ _ rfl rfl)) fun vr B7 H7 e7 a7 hh7 => ?_
      obtain ⟨_, _, _, hvr, rfl, rfl, c, rfl, c0, c1⟩ := hh7
      refine ⟨fun σ' H'' => ∃ B8 r vr, σ' = [some (.ref a), some (.int 9), some (.ref p), some (.int (n : Nat)), some vw, some (.ref fa), some (.int (0 + (i : Nat))), some (.int k), some (.str wd), some vr] ∧ At (Fm.box p) (upd B' fa (.lst acc)) H' B8 H'' ∧ Dd K B8 vr r ∧ RG n r, ?_, ?_⟩
      · refine sv_if (b := inS wd WSH) a7 (et_cmp (inSL (ed_var rfl (.str wd wl)) pyStr2)) (fun hb1 B8 H8 e8 a8 => ?_) (fun hb1 B8 H8 e8 a8 => ?_)
        · refine sv_asg a8 (ev_tup3 (edk _ _ rfl) (edw _ _ rfl) (pickw _ _ rfl rfl ((((eB3.trans e5).trans e6).trans e7).trans e8))) fun vr2 B9 H9 e9 a9 hh9 => ?_
          obtain ⟨_, _, _, hvr2, rfl, rfl, u, rfl, hu⟩ := hh9
          exact ⟨B9, _, vr2, rfl, a9, hvr2, rg_word n8 k0 k1' (inS_iff.mp hb1) h8 hu⟩
        · refine sv_if (b := inS wd TSH) a8 (et_cmp (inSL (ed_var rfl (.str wd wl)) pyStr)) (fun hb2 B9 H9 e9 a9 => ?_) (fun hb2 B9 H9 e9 a9 => ?_)
          · refine sv_asg (P := fun v B => ∃ d : Int, Dd K B v (.tuple [.int k, .str wd, .int c, .int d]) ∧ 0 ≤ d ∧ d < (n : Nat)) a9 (ev_op (P := DD K (.tuple [.int k, .str wd, .int c])) (ed_var rfl ((hvr.up e8).up e9)) (ev_tup1 (takek _ _ rfl rfl)) upc_dd ?_) fun vr2 B10 H10 e10 a10 ⟨d, hvr2, d0, d1⟩ => ?_
            · intro B10 e10 H10 u w10 j10 hu hhx Q q
              obtain ⟨_, hx, d, rfl, d0, d1⟩ := hhx
              exact rd_addT (F := Fm.box p) (K := K) (B := B10) (by show 4 ≤ 16777216; decide) B10 (Ex.refl B10) H10 u w10 j10 hu hx Q fun z B11 H11 s11 j11 g11 => q z B11 H11 s11 j11 ⟨d, g11, d0, d1⟩
            · exact ⟨B10, _, vr2, rfl, a10, hvr2, rg_two n8 k0 k1' (inS_iff.mp hb2) h8 c0 c1 d0 d1⟩
          · refine ⟨B9, _, vr, rfl, a9, (hvr.up e8).up e9, rg_one n8 k0 k1' ?_ h8 c0 c1⟩
            rcases l8.2.2.1 with h | h | h
            · rw [inS_iff.mpr h] at hb1
              cases hb1
            · rw [inS_iff.mpr h] at hb2
              cases hb2
            · exact h
      · rintro σ' H'' ⟨B8, r, vr, rfl, a8, hr8, hRG⟩
        have hall : ∀ x ∈ rs ++ [r], ruleD x n = true := fun x hx => by
          rcases List.mem_append.mp hx with h | h
          · exact G.ruleD x h
          · rw [List.mem_singleton.mp h]
            exact hRG.1
        have hlen : (rs ++ [r]).length ≤ 100 := by rw [List.length_append]; show rs.length + 1 ≤ 100; omega
        refine sv_if (b := isNon (optD (backK (edges (rs ++ [r])) n))) a8 (et_cmp (ed_op (ed_F (eds_cons (ed_F (z := .list ((edges (rs ++ [r])).map toD)) (eds_cons (ed_op (ed_var rfl (dx.up a8.st.bb)) (ed_lst (eds_cons (ed_var rfl hr8) eds_nil)) (rd_addL (by show rs.length + 1 ≤ 16777216; omega))) eds_nil) ⟨_, rs ++ [r], n, rfl, .inl rfl, hlen, hall⟩ rfl) (eds_cons (ed_var rfl (.int (n : Nat))) eds_nil)) ⟨edges (rs ++ [r]), n, rfl, Nat.le_trans (edges_len _) hlen, by omega⟩ (by show optD (backK (((edges (rs ++ [r])).map toD).map ofD) ((n : Int)).toNat) = _; rw [ofD_toD]; rfl)) ed_non rd_isN)) (fun hbn B9 H9 e9 a9 => ?_) (fun hbn B9 H9 e9 a9 => ?_)
        · obtain ⟨s10, k10, e10, hd10⟩ := cq_close hfa k3 s' hb hd a9.st a9.j
          obtain ⟨xs, rfl, hfl⟩ := hRG.flat
          have hB9 : B9 fa = some (.lst acc) := a9.st.bb _ _ upd_same
          refine ⟨.ref fa, rfl, .inl ⟨rfl, _, sq_of hd10⟩, vr, rfl, fa, acc, vr, rfl, rfl, hd10, by rw [ha.len, sizeLine_eq]; omega, ?_⟩
          refine ⟨⟨_, _, _, _, rfl⟩, rs ++ [.tuple xs], by rw [List.length_append]; show rs.length + 1 ≤ i + 1; omega, G.snoc1 hlt hRG ?_, cq_set hfa k3 s10 k10 del1_same ((ha.up e10).snoc (tup_del (hr8.up e9) hB9 hfl))⟩
          cases hh : backK (edges (rs ++ [.tuple xs])) n with
          | none => rfl
          | some b => rw [hh] at hbn; cases hbn
        · obtain ⟨s10, k10, e10, hd10⟩ := cq_close hfa k3 s' hb hd a9.st a9.j
          exact ⟨⟨_, _, _, _, rfl⟩, rs, by omega, G, _, acc, s10, k10, del1_same, hd10, ha.up e10⟩
    subst ho
    refine ⟨fun σ' H'' => (∃ o6 o7 o8 o9, σ' = [some (.ref a), some (.int 9), some (.ref p), some (.int (n : Nat)), some vw, some (.ref fa), o6, o7, o8, o9]) ∧ ∃ rs, GR n rs ∧ Cq (Fm.box p) K B3 H3 fa rs H'', ?_, ?_⟩
    · obtain ⟨B', acc, s', k', hb, hd, ha⟩ := c
      refine sv_ifB (At.start k') (eb_cmp (P := fun v _ => ∃ b, v = .bl b) (ev_op (P' := DD K (.int 0)) (ev_take (m := 6) rfl ed_int (by decide) (by decide)) ed_int (fun _ _ _ _ h => h) ?_) fun v B h => h) (fun _ B5 H5 e5 a5 => ?_) (fun B5 H5 e5 a5 => ?_)
      · intro B6 _ H6 u v j6 ⟨k, hu, _⟩ hv Q q
        exact ⟨k, 0, hu, dd_int hv, q _ B6 H6 (Step.refl j6.e) j6 ⟨_, rfl⟩⟩
      · refine ⟨.int (n : Nat), rfl, (n : Nat), rfl, by omega, by omega, for_range (lo := 0) (n := ((n : Nat) : Int).toNat) (fun i σ' H' => (∃ o6 o7 o8 o9, σ' = [some (.ref a), some (.int 9), some (.ref p), some (.int (n : Nat)), some vw, some (.ref fa), o6, o7, o8, o9]) ∧ ∃ rs, GR n rs ∧ Cq (Fm.box p) K B3 H3 fa rs H') ⟨⟨_, _, _, _, rfl⟩, rs, G, cq_pass hfa k3 s' hb hd ha a5.st a5.j⟩ (fun i σ' H' hi ⟨⟨o6, o7, o8, o9, ho⟩, rs, G, B', acc, s', k', hb, hd, ha⟩ => ?_) (fun σ' H' ⟨⟨o6, o7, o8, o9, ho⟩, rs, G, c⟩ => ⟨⟨o6, o7, o8, o9, ho⟩, rs, G, c⟩)⟩
        subst ho
        have hlen9 := G.len
        have hi' : i < n := by omega
        obtain ⟨kx, dx⟩ := cq_open hfa k3 k' hb hd ha (by omega)
        have eB3 : Ex B3 (upd B' fa (.lst acc)) := s'.bb.trans (Ex.new hb)
        have aX : At (Fm.box p) (upd B' fa (.lst acc)) H' (upd B' fa (.lst acc)) H' := At.start kx
        refine sv_if (b := decide (((rs.length : Nat) : Int) < 9) && PyData.eqv (.list ((rs.filter (pK (0 + (i : Nat)))).map fun d => d)) (.list [])) aX (et_and (et_cmp (K := K) (ed_op (ev_cb (eds_cons (ed_var rfl dx) eds_nil) (rc_len (x := .list rs) rfl)) (ed_var rfl (.int 9)) rd_lt)) fun _ => et_cmp (ed_op (ed_lcD (pK (0 + (i : Nat))) (fun d => d) (ev_seqL (ed_var rfl dx)) (by omega) (fun _ => rfl) (fun d v B5 hm _ hdv => ?_) (fun d v B5 _ _ _ hdv => ed_var rfl hdv)) (ed_lst eds_nil) (rd_eqD (Sm.sh (sm_filter (n := 2) fun d hd => smD_sm 1 d (G.ok d hd).2)) rfl))) (fun hbt B6 H6 e6 a6 => ?_) (fun hbt B6 H6 e6 a6 => ?_)
        · obtain ⟨x, sh, p0, ps, rfl, _⟩ := ruleD_is (G.ruleD d hm)
          exact et_and (et_cmp (K := K) (ed_op (ed_op (ed_var rfl hdv) ed_int (rd_ixT at3_0)) (ed_var rfl (.int _)) (rd_eqD rfl rfl))) fun _ => et_cmp (inSL (ed_op (ed_var rfl hdv) ed_int (rd_ixT at3_1)) pyStr2)
        · rw [Bool.and_eq_true, decide_eq_true_eq] at hbt
          have hlt : rs.length < 9 := by omega
          have hd6 : H6 fa = some (.lst acc) := a6.st.keep fa _ nfp hd
          refine ⟨.ref fa, rfl, .inl ⟨rfl, _, sq_of hd6⟩, ?_⟩
          have evt : EV (Fm.box p) (tTup (tCons (tVar 7) (tCons (tCall (spPick K) [] E0 (tCons (tVar 2) (tCons (tLst (tCons (tC (.str "left")) (tCons (tC (.str "right")) tNil))) tNil))) (tCons (tCall (spPick K) [] E0 (tCons (tVar 2) (tCons (tVar 4) tNil))) tNil)))) [some (.ref a), some (.int 9), some (.ref p), some (.int (n : Nat)), some vw, some (.ref fa), o6, some (.int (0 + (i : Nat))), o8, o9] B6 (fun v B => ∃ x y z, Dd K B v (.tuple [x, y, z]) ∧ x = .int (0 + (i : Nat)) ∧ (∃ wd, y = .str wd ∧ wd ∈ WSH) ∧ ∃ u, z = .str u ∧ u ∈ W4) :=
            ev_tup3 (ev_any (ed_var rfl (.int _))) ((ev_pick (d := .list (WSH.map .str)) rfl pyStr2 (.inl rfl) (fun z => nomatch z) (by show 2 < 1073741824; decide)).imp fun v B1 _ ⟨x, hx, hv⟩ => by
              obtain ⟨u, hu, rfl⟩ := List.mem_map.mp hx
              exact ⟨_, hv, u, rfl, hu⟩) (pickw _ _ rfl rfl (eB3.trans e6))
          refine evt B6 (Ex.refl B6) H6 a6.j _ fun vr B7 H7 s7 k7 hh8 => ?_
          obtain ⟨_, _, _, hvr, rfl, ⟨wd, rfl, hwd⟩, u, rfl, hu⟩ := hh8
          have a7 := a6.next s7 k7
          obtain ⟨s10, k10, e10, hd10⟩ := cq_close hfa k3 s' hb hd a7.st a7.j
          have h8 : wd ∈ L8 := (by decide +kernel : ∀ u ∈ WSH, u ∈ L8) wd hwd
          have hRG : RG n (.tuple [.int (0 + (i : Nat)), .str wd, .str u]) := rg_word n8 (by omega) (by omega) hwd h8 hu
          have hno : isOne (.tuple [.int (0 + (i : Nat)), .str wd, .str u]) = false := (by decide +kernel : ∀ u ∈ WSH, inS u OSH = false) wd hwd
          have hB7 : B7 fa = some (.lst acc) := a7.st.bb _ _ upd_same
          refine ⟨fa, acc, vr, rfl, rfl, hd10, by rw [ha.len, sizeLine_eq]; omega, ?_⟩
          exact ⟨⟨_, _, _, _, rfl⟩, _, G.snoc0 hlt hRG hno, cq_set hfa k3 s10 k10 del1_same ((ha.up e10).snoc (tup_del hvr hB7 rfl))⟩
        · obtain ⟨s10, k10, e10, hd10⟩ := cq_close hfa k3 s' hb hd a6.st a6.j
          exact ⟨⟨_, _, _, _, rfl⟩, rs, G, _, acc, s10, k10, del1_same, hd10, ha.up e10⟩
      · exact ⟨⟨_, _, _, _, rfl⟩, rs, G, cq_pass hfa k3 s' hb hd ha a5.st a5.j⟩
    rintro σ' H5 ⟨⟨o6, o7, o8, o9, rfl⟩, rs, G, c⟩
    have hlen9 := G.len
    obtain ⟨B5, s5, k5, g5⟩ := cq_done k3 hfa (by omega) c
    have a5 : At (Fm.box p) B1 H1 B5 H5 := a3.next s5 k5
    refine ⟨fun σ' H'' => ∃ B6 vl rs, σ' = [some (.ref a), some (.int 9), some (.ref p), some (.int (n : Nat)), some vw, some vl, o6, o7, o8, o9] ∧ At (Fm.box p) B1 H1 B6 H'' ∧ Dd K B6 vl (.list rs) ∧ rs ≠ [] ∧ GR n rs, ?_, ?_⟩
    · refine sv_if (b := PyData.eqv (.list rs) (.list [])) a5 (et_cmp (ed_op (ed_var rfl g5) (ed_lst eds_nil) (rd_eqD (Sm.sh (sm_lst (n := 2) fun d hd => smD_sm 1 d (G.ok d hd).2)) rfl))) (fun hbt B6 H6 e6 a6 => ?_) (fun hbt B6 H6 e6 a6 => ?_)
      · refine sv_asg (P := DD K (.list [.tuple [.int 0, .str "left", .str "a"]])) a6 (ed_lst (eds_cons (ed_tup (eds_cons ed_int (eds_cons ed_str (eds_cons ed_str eds_nil)))) eds_nil)) fun vl B7 H7 e7 a7 h7 => ?_
        refine ⟨B7, vl, _, rfl, a7, h7, fun z => (nomatch z), ⟨by decide, fun r hr => ?_, ?_⟩⟩
        · rw [List.mem_singleton.mp hr]
          exact rg_word n8 (by decide) (by omega) (by decide +kernel) (by decide +kernel) (by decide +kernel)
        · have hrs : rs = [] := by
            rw [eqv_nil] at hbt
            exact List.isEmpty_iff.mp hbt
          rw [hrs] at G
          exact G.bk
      · refine ⟨B6, _, rs, rfl, a6, g5.up e6, fun z => ?_, G⟩
        rw [eqv_nil, z] at hbt
        cases hbt
    · rintro σ' H6 ⟨B6, vl, rs, rfl, a6, g6, hne, G6⟩
      refine sv_ret (P := fun v B => ∃ rs', Dd K B v (.tuple [.int (n : Nat), .tuple rs']) ∧ rs' ≠ [] ∧ GR n rs') a6 ?_ fun v B7 H7 e7 a7 ⟨rs', h7, hne', G7⟩ => q v B7 H7 n rs' (step_box hp s1 a7.st) h7 n1 n8 hne' G7
      intro B7 e7 H7 k7 Q7 q7
      refine ⟨.int (n : Nat), rfl, .ref p, rfl, vl, rfl, p, vl, B7, rs, rfl, k7, g6.up e7, by have := G6.len; omega, fun v8 B8 H8 rs8 s8 k8 h8 hp8 => ?_⟩
      obtain ⟨l, ys, rfl, g1, g2, g3⟩ := dd_lst h8
      refine ⟨l, ys, rfl, .inl ⟨sq_of (k8.e _ _ g1), fun t ht => ?_⟩⟩
      refine ⟨by show 2 ≤ sizeLine; decide, fun u hu => ?_⟩
      have s9 : Step (fun a => a = p) B8 H8 _ _ := Step.alloc (o := .tup ys) k8.e ht
      have k9 := k8.alloc (o := .tup ys) ht
      have bt : B8 t = none := fresh_back k8.e ht
      have bu := fresh_back k9.e hu
      refine q7 (.ref u) _ _ ((s8.trans s9).trans (Step.alloc k9.e hu)) (k9.alloc hu) ⟨rs8, .tup (ta_of upd_same) (by show 2 ≤ sizeLine; decide) (.cons (.int _) (.cons (Dd.up (.tup (ta_of upd_same) g2 (g3.up (Ex.new bt))) (Ex.new bu)) .nil)), fun z => ?_, G6.perm hp8⟩
      rw [z] at hp8
      exact hne (List.Perm.nil_eq hp8).symm
end
end K50

namespace K50
open PySem PySem.Spec PyProof.Rows L2 Evl Ex Dx StX
open PySem.PyData (strOk)
section
variable {P : Program} {w : World} {K : PySem.W.Frag} {mg : Str → Option Value} {base : Heap} {f : Addr} {fd : FuncData}


/-! ### the parts of a rule -/
def numI : PyData → Int
  | .int i => i
  | _ => 0
def prtL (r : PyData) : List Int := match r with
  | .tuple (_ :: .str how :: ps) => if inS how WSH = true then [] else ps.map numI
  | _ => []
def hdI (r : PyData) : Int := match r with
  | .tuple (.int a :: _) => a
  | _ => 0
def RF (n : Nat) (r : PyData) : Prop := ∃ (a : Int) (how : Str) (p : PyData) (ps : List PyData), r = .tuple (.int a :: .str how :: p :: ps) ∧ (0 ≤ a ∧ a < (n : Nat)) ∧ ((inS how WSH = true ∧ (∃ s, p = .str s ∧ SeqAt.shaped (.str s) = true) ∧ ps = [] ∧ prtL r = []) ∨ (inS how WSH = false ∧ p :: ps = (prtL r).map .int ∧ 1 ≤ (prtL r).length ∧ (prtL r).length ≤ 2 ∧ ∀ q ∈ prtL r, 0 ≤ q ∧ q < (n : Nat)))
theorem sh_str {s : Str} (h : strOk s = true) : SeqAt.shaped (.str s) = true := (sm_str (n := 0) h).sh
theorem atom_ok {s : Str} (h : atomD (.str s) = true) : strOk s = true := by
  have : s ∈ L12 := List.contains_iff_mem.mp h
  exact (strF s this).1
theorem wsh_not {s : Str} : (∃ L, L = OSH ∨ L = TSH ∧ True) → True := fun _ => trivial
theorem rg_rf {n : Nat} {r : PyData} (h : RG n r) : RF n r := by
  obtain ⟨a, s, p, ps, rfl, a0, a1, ht⟩ := ruleD_is h.1
  refine ⟨a, s, p, ps, rfl, ⟨a0, a1⟩, ?_⟩
  unfold tailD at ht
  split at ht
  · rename_i hw
    rw [Bool.and_eq_true, decide_eq_true_eq] at ht
    obtain ⟨hl, hp⟩ := ht
    have e : ps = [] := List.eq_nil_of_length_eq_zero (by simpa using hl)
    subst e
    have hp' : wordD p = true := hp
    have hpr : prtL (.tuple [.int a, .str s, p]) = [] := by
      show (if inS s WSH = true then [] else [p].map numI) = []
      rw [if_pos hw]
    cases p with
    | str u =>
      refine .inl ⟨hw, ⟨u, rfl, ?_⟩, rfl, hpr⟩
      rcases smD_is h.2 with h1 | ⟨ds, e, _, h2⟩
      · cases h1
      · cases e
        have := h2 (.str u) (by simp)
        exact sh_str (atom_ok this)
    | _ => cases hp'
  · rename_i hw
    have hw' : inS s WSH = false := by simpa using hw
    split at ht
    · rename_i ho
      rw [Bool.and_eq_true, decide_eq_true_eq] at ht
      obtain ⟨hl, hp⟩ := ht
      have e : ps = [] := List.eq_nil_of_length_eq_zero (by simpa using hl)
      subst e
      have hp' : inB p 0 ((n : Nat) - 1) = true := hp
      obtain ⟨c, rfl, c0, c1⟩ := inB_is hp'
      have hpr : prtL (.tuple [.int a, .str s, .int c]) = [c] := by
        show (if inS s WSH = true then [] else [c]) = [c]
        rw [if_neg hw]
      refine .inr ⟨hw', by rw [hpr]; rfl, by rw [hpr]; exact Nat.le_of_ble_eq_true rfl, by rw [hpr]; exact Nat.le_of_ble_eq_true rfl, fun q hq => ?_⟩
      rw [hpr] at hq
      rw [List.mem_singleton.mp hq]
      omega
    · rw [Bool.and_eq_true, Bool.and_eq_true, decide_eq_true_eq] at ht
      obtain ⟨hs, hl, hp⟩ := ht
      match ps, hl, hp with
      | [p2], hl, hp =>
        have h1 : (inB p 0 ((n : Nat) - 1) && (inB p2 0 ((n : Nat) - 1) && true)) = true := hp
        rw [Bool.and_eq_true, Bool.and_eq_true] at h1
        obtain ⟨c, rfl, c0, c1⟩ := inB_is h1.1
        obtain ⟨d, rfl, d0, d1⟩ := inB_is h1.2.1
        have hpr : prtL (.tuple [.int a, .str s, .int c, .int d]) = [c, d] := by
          show (if inS s WSH = true then [] else [c, d]) = [c, d]
          rw [if_neg hw]
        refine .inr ⟨hw', by rw [hpr]; rfl, by rw [hpr]; exact Nat.le_of_ble_eq_true rfl, by rw [hpr]; exact Nat.le_of_ble_eq_true rfl, fun q hq => ?_⟩
        rw [hpr] at hq
        simp only [List.mem_cons, List.not_mem_nil, or_false] at hq
        rcases hq with rfl | rfl <;> omega
theorem RF.parts {n : Nat} {r : PyData} (h : RF n r) : (prtL r).length ≤ 2 ∧ ∀ q ∈ prtL r, 0 ≤ q ∧ q < (n : Nat) := by
  obtain ⟨a, how, p, ps, rfl, _, h⟩ := h
  rcases h with ⟨_, _, _, hp⟩ | ⟨_, _, _, h2, h3⟩
  · rw [hp]
    exact ⟨by decide, fun q hq => nomatch hq⟩
  · exact ⟨h2, h3⟩
theorem RF.hd {n : Nat} {r : PyData} (h : RF n r) : 0 ≤ hdI r ∧ hdI r < (n : Nat) := by
  obtain ⟨a, how, p, ps, rfl, h1, _⟩ := h
  exact h1
theorem ed_hd {F : Fm} {σ : L2.St} {B : Hp} {i : Nat} {v : V} {r : PyData} {n : Nat} (hi : σ[i]? = some (some v)) (hv : Dd K B v r) (hr : RF n r) : ED F K (tOp (rIx K) (tVar i) (tC (.int 0))) σ B (.int (hdI r)) := by
  obtain ⟨a, how, p, ps, rfl, h1, _⟩ := hr
  exact ed_op (ed_var hi hv) ed_int (rd_ixT at3_0)
def fPts : List PyData → PyData
  | [r] => .tuple ((prtL r).map .int)
  | _ => .none
def preRF (ds : List PyData) : Prop := ∃ r n, ds = [r] ∧ RF n r
theorem ints_flat (S : List Int) : (S.map PyData.int).all flatD = true := flatI S

abbrev s_part_kinds : Stmt := topS 34
abbrev N_part_kinds : List Str := ["rule"]
theorem sc_part_kinds : FnScope N_part_kinds ["rule"] (defScope s_part_kinds) := ⟨rfl, rfl, rfl, by decide +kernel, rfl, by decide +kernel, by decide +kernel⟩
theorem ok_part_kinds (F : Fun K "part_kinds" "part_kinds" s_part_kinds f fd) (T : TC K mg) : FnOk P w K mg base CX0 1 f fd ["rule"] (spF K preRF fPts) := by
  refine F.ok sc_part_kinds (fun vs H Q E h => ?_) (fun cdv A outer s H vs Q E hr h => ?_)
  · obtain ⟨B, ds, e, hd, ⟨r, n, rfl, _⟩, q⟩ := h
    exact hd.len
  · obtain ⟨B, ds, e, hd, ⟨r, n, rfl, hr0⟩, q⟩ := h
    obtain ⟨v, rfl, hv⟩ := arg1 hd
    obtain ⟨WW, gW, hW⟩ := T.w_WORD.ex
    refine ⟨_, (pss_cons (ps_if (pt_cmpR (op_inK K) (pe_ix (ix_seqK K) (pv 0) pe_int (fun _ _ => rfl)) (pe_glob (v := .ref WW) rfl gW rfl) (by rfl)) (pss_one (ps_ret (pe_tup pa_nil))) pss_nil)
      (pss_one (ps_ret (pe_slice (sl_anyK K) (pv 0) (po_some pe_int) po_none)))), ?_⟩
    have a : At Fm.pure B H B H := At.start (Ok.any e)
    obtain ⟨x, how, p, ps, rfl, _, hc⟩ := hr0
    have i1 : ED Fm.pure K (tOp (rIx K) (tVar 0) (tC (.int 1))) [some v] B (.str how) := ed_op (ed_var rfl hv) ed_int (rd_ixT at3_1)
    rcases hc with ⟨hw, _, _, hp⟩ | ⟨hw, hp, _⟩
    · refine qv_when (b := true) a (et_is (et_cmp (inST i1 (ed_v (hW B)))) hw) (fun _ B1 H1 e1 a1 => ?_) (fun h => nomatch h)
      refine sv_ret (P := DD K (.tuple [])) a1 (ed_tup eds_nil) fun v1 B2 H2 e2 a2 h2 => q _ B2 H2 a2.st ?_
      show Dd K B2 v1 (.tuple ((prtL _).map .int))
      rw [hp]
      exact h2
    · refine qv_when (b := false) a (et_is (et_cmp (inST i1 (ed_v (hW B)))) hw) (fun h => nomatch h) (fun _ B1 H1 e1 a1 => ?_)
      refine sv_ret (P := DD K (.tuple (p :: ps))) a1 (ed_is (ed_slT (ed_var rfl (hv.up e1)) (eo_some (K := K) (ed_int (i := 2))) eo_none) (congrArg PyData.tuple cut2)) fun v1 B2 H2 e2 a2 h2 => q _ B2 H2 a2.st ?_
      show Dd K B2 v1 (.tuple ((prtL _).map .int))
      rw [← hp]
      exact h2

/-! ### is_live, live_rules -/
def livB (L : List Int) (r : PyData) : Bool := (prtL r).all L.contains
def fLive : List PyData → PyData
  | [r, .list L] => .bool (livB (L.map numI) r)
  | _ => .none
def preLive (ds : List PyData) : Prop := ∃ (r : PyData) (n : Nat) (L : List Int), ds = [r, .list (L.map .int)] ∧ RF n r ∧ L.length ≤ 100
theorem rc_all' {F : Fm} {B : Hp} {bs : List Bool} {ds : List PyData} (e : ds = bs.map .bool) : RDc F K (rAll K) B [.list ds] (.bool (bs.all id)) := e ▸ rc_all
theorem numI_map (L : List Int) : (L.map PyData.int).map numI = L := by
  rw [List.map_map]
  exact List.map_id L
theorem ints_filter (L : List Int) (p : PyData → Bool) : ((L.map PyData.int).filter p).map (fun d => d) = (L.filter fun x => p (.int x)).map .int := by
  rw [List.map_id', List.filter_map]
  rfl

abbrev s_is_live : Stmt := topS 78
abbrev N_is_live : List Str := ["rule", "live", "part"]
theorem sc_is_live : FnScope N_is_live ["rule", "live"] (defScope s_is_live) := ⟨rfl, rfl, rfl, by decide +kernel, rfl, by decide +kernel, by decide +kernel⟩
theorem ok_is_live (F : Fun K "is_live" "is_live" s_is_live f fd) (T : TC K mg) (C_part_kinds : Callee P w K mg base "part_kinds" 1 ["rule"] (spF K preRF fPts)) : FnOk P w K mg base CX0 2 f fd ["rule", "live"] (spF K preLive fLive) := by
  refine F.ok sc_is_live (fun vs H Q E h => ?_) (fun cdv A outer s H vs Q E hr h => ?_)
  · obtain ⟨B, ds, e, hd, ⟨r, n, L, rfl, _⟩, q⟩ := h
    exact hd.len
  · obtain ⟨B, ds, e, hd, ⟨r, n, L, rfl, hr0, hL⟩, q⟩ := h
    obtain ⟨v, v2, rfl, hv, hl⟩ := arg2 hd
    refine ⟨_, (pss_one (ps_ret (pe_callB (cr_allK K) (by rfl) T.m_all bt_all (pa_cons (pe_lc (own := [("part", 2)]) rfl sc_is_live.nd (pi_seqK K (pe_callC C_part_kinds (hr.mono (by decide)) rfl pass0 (pa_cons (pv 0) pa_nil))) (blkOk_by (own := [("part", 2)]) (N := N_is_live) (sc := defScope s_is_live) (by decide +kernel)) (fun _ _ _ _ _ => pg_name (i := 2) sc_is_live.nd rfl (Or.inl rfl)) (fun _ _ _ _ _ => pts_nil) (fun _ _ _ _ _ => (pe_cmpR (op_inK K) (pv 2) (pv 1) (by rfl)))) pa_nil)))), ?_⟩
    have a : At Fm.pure B H B H := At.start (Ok.any e)
    have hpl := hr0.parts.1
    refine sv_ret (P := DD K (.bool (livB L r))) a (ed_is (ev_cb (eds_cons (ed_lcD (K := K) (ds := (prtL r).map .int) (fun _ => true) (fun d => .bool (L.contains (numI d))) (ev_seqT (ed_F (eds_cons (ed_var rfl hv) eds_nil) ⟨r, n, rfl, hr0⟩ rfl)) (by rw [List.length_map]; omega) (fun _ => rfl) (fun d u B1 hm e1 hu => et_yes) (fun d u B1 hm _ e1 hu => ?_)) eds_nil) (rc_all' (bs := (prtL r).map L.contains) ?_)) ?_) fun v1 B2 H2 e2 a2 h2 => q _ B2 H2 a2.st ?_
    · obtain ⟨x, _, rfl⟩ := List.mem_map.mp hm
      exact ed_is (ed_op (ed_var rfl hu) (ed_var rfl (hl.up e1)) (rd_isin (.inl rfl) rfl (flatI _))) (congrArg PyData.bool (inD_int _ _))
    · rw [List.filter_eq_self.mpr (fun _ _ => rfl), List.map_map, List.map_map]
      rfl
    · rw [List.all_map]
      rfl
    · show Dd K B2 v1 (.bool (livB ((L.map PyData.int).map numI) r))
      rw [numI_map]
      exact h2

end
end K50

namespace K50
open PySem PySem.Spec PyProof.Rows L2 Evl Ex Dx StX
open PySem.PyData (strOk)
section
variable {P : Program} {w : World} {K : PySem.W.Frag} {mg : Str → Option Value} {base : Heap} {f : Addr} {fd : FuncData}


/-! ### which kinds are live: passes over the rules -/
structure Gs (n : Nat) (rs : List PyData) : Prop where
  n8 : n ≤ 8
  n1 : 1 ≤ n
  l9 : rs.length ≤ 12
  rf : ∀ r ∈ rs, RF n r
def stepP (L : List Int) (r : PyData) : List Int := if (!L.contains (hdI r) && livB L r) = true then L ++ [hdI r] else L
def passL (rs : List PyData) (L : List Int) : List Int := rs.foldl stepP L
def liveN (rs : List PyData) : Nat → List Int
  | 0 => []
  | t + 1 => passL rs (liveN rs t)
def liveL (rs : List PyData) (n : Nat) : List Int := liveN rs (n + 1)
structure LV (n : Nat) (L : List Int) : Prop where
  nd : L.Nodup
  rg : ∀ x ∈ L, 0 ≤ x ∧ x < (n : Int)
theorem LV.len {n : Nat} {L : List Int} (h : LV n L) : L.length ≤ n := Gm.pig n L h.nd h.rg
theorem lv_nil {n : Nat} : LV n [] := ⟨List.nodup_nil, fun x hx => nomatch hx⟩
theorem step_lv {n : Nat} {L : List Int} {r : PyData} (h : LV n L) (hr : RF n r) : LV n (stepP L r) := by
  unfold stepP
  split
  · rename_i hb
    rw [Bool.and_eq_true, Bool.not_eq_true'] at hb
    refine ⟨?_, fun x hx => ?_⟩
    · rw [List.nodup_append]
      refine ⟨h.nd, by simp, fun a ha b hb2 z => ?_⟩
      rw [List.mem_singleton.mp hb2] at z
      have := List.contains_iff_mem.mpr (z ▸ ha)
      rw [this] at hb
      exact absurd hb.1 (by decide)
    · rcases List.mem_append.mp hx with hx | hx
      · exact h.rg x hx
      · rw [List.mem_singleton.mp hx]
        exact hr.hd
  · exact h
theorem step_y {L : List Int} {r : PyData} (h : (!L.contains (hdI r) && livB L r) = true) : stepP L r = L ++ [hdI r] := by
  unfold stepP
  rw [if_pos h]
theorem step_n {L : List Int} {r : PyData} (h : (!L.contains (hdI r) && livB L r) = false) : stepP L r = L := by
  unfold stepP
  rw [if_neg (by rw [h]; decide)]
theorem step_pre (L : List Int) (r : PyData) : ∃ S, stepP L r = L ++ S := by
  unfold stepP
  split
  · exact ⟨_, rfl⟩
  · exact ⟨[], (List.append_nil L).symm⟩
theorem fold_lv {n : Nat} : ∀ {rs : List PyData} {L : List Int}, (∀ r ∈ rs, RF n r) → LV n L → LV n (rs.foldl stepP L)
  | [], _, _, h => h
  | r :: rs, _, hr, h => fold_lv (rs := rs) (fun x hx => hr x (List.mem_cons_of_mem _ hx)) (step_lv h (hr r List.mem_cons_self))
theorem fold_pre : ∀ (rs : List PyData) (L : List Int), ∃ S, rs.foldl stepP L = L ++ S
  | [], L => ⟨[], (List.append_nil L).symm⟩
  | r :: rs, L => by
    obtain ⟨S, e⟩ := step_pre L r
    obtain ⟨S2, e2⟩ := fold_pre rs (stepP L r)
    refine ⟨S ++ S2, ?_⟩
    show rs.foldl stepP (stepP L r) = _
    rw [e2, e, List.append_assoc]
theorem live_lv {n : Nat} {rs : List PyData} (hr : ∀ r ∈ rs, RF n r) : ∀ t, LV n (liveN rs t)
  | 0 => lv_nil
  | t + 1 => fold_lv hr (live_lv hr t)
theorem pass_stable {rs : List PyData} {L : List Int} (h : (passL rs L).length ≤ L.length) : passL rs L = L := by
  obtain ⟨S, e⟩ := fold_pre rs L
  have e' : passL rs L = L ++ S := e
  rw [e', List.length_append] at h
  have : S = [] := List.eq_nil_of_length_eq_zero (by omega)
  rw [e', this, List.append_nil]
theorem live_later {rs : List PyData} {s : Nat} (h : passL rs (liveN rs s) = liveN rs s) : ∀ d, liveN rs (s + d) = liveN rs s
  | 0 => rfl
  | d + 1 => by
    show passL rs (liveN rs (s + d)) = _
    rw [live_later h d, h]
theorem live_many {rs : List PyData} : ∀ t, (∃ s, s < t ∧ passL rs (liveN rs s) = liveN rs s) ∨ t ≤ (liveN rs t).length
  | 0 => .inr (Nat.zero_le _)
  | t + 1 => by
    rcases live_many (rs := rs) t with ⟨s, hs, h⟩ | h
    · exact .inl ⟨s, by omega, h⟩
    · by_cases e : (passL rs (liveN rs t)).length ≤ (liveN rs t).length
      · exact .inl ⟨t, by omega, pass_stable e⟩
      · exact .inr (by show t + 1 ≤ (passL rs (liveN rs t)).length; omega)
theorem live_stable {n : Nat} {rs : List PyData} (hr : ∀ r ∈ rs, RF n r) : passL rs (liveL rs n) = liveL rs n := by
  rcases live_many (rs := rs) (n + 1) with ⟨s, hs, h⟩ | h
  · have e := live_later h (n + 1 - s)
    rw [show s + (n + 1 - s) = n + 1 by omega] at e
    unfold liveL
    rw [e, h]
  · have := (live_lv hr (n + 1)).len
    omega
theorem live_at {n : Nat} {rs : List PyData} (hr : ∀ r ∈ rs, RF n r) {t : Nat} (h : passL rs (liveN rs t) = liveN rs t) : liveN rs t = liveL rs n := by
  by_cases ht : t ≤ n + 1
  · have e := live_later h (n + 1 - t)
    rw [show t + (n + 1 - t) = n + 1 by omega] at e
    exact e.symm
  · have e := live_later (s := n + 1) (live_stable hr) (t - (n + 1))
    rw [show n + 1 + (t - (n + 1)) = t by omega] at e
    exact e
theorem foldT {rs : List PyData} {i : Nat} {r : PyData} (h : rs[i]? = some r) (L : List Int) : (rs.take (i + 1)).foldl stepP L = stepP ((rs.take i).foldl stepP L) r := by
  rw [take_snoc h, List.foldl_append]
  rfl
variable {c0 c1 c2 CP : Addr}
/-- of pairs that stand as data: f of their number of kinds and their rules -/
def spIns (K : PySem.W.Frag) (CP : Addr) (fn : Nat → List PyData → PyData) : Sp := fun vs H Q _ => ∃ (B : Hp) (vp : V) (n : Nat) (rs : List PyData), vs = [vp] ∧ Ex B H ∧ InsP K CP (.int (n : Nat)) (.tuple rs) vp B ∧ Gs n rs ∧ ∀ v' B' H', Step (fun _ => False) B H B' H' → Dd K B' v' (fn n rs) → Q v' H'
theorem ed_Ins {F : Fm} {σ : L2.St} {B : Hp} {i : Nat} {vp : V} {n : Nat} {rs : List PyData} {fn : Nat → List PyData → PyData} (hi : σ[i]? = some (some vp)) (hp : InsP K CP (.int (n : Nat)) (.tuple rs) vp B) (g : Gs n rs) : ED F K (tCall (spIns K CP fn) [] E0 (tCons (tVar i) tNil)) σ B (fn n rs) := fun B1 e1 H1 j1 Q1 q1 =>
  ⟨vp, hi, B1, vp, n, rs, rfl, j1.e, upc_ins _ _ _ e1 hp, g, fun v' B' H' s h => q1 v' B' H' s.pure (j1.pure s) h⟩
theorem ev_rules {F : Fm} {σ : L2.St} {B : Hp} {i : Nat} {vp : V} {dk : PyData} {rs : List PyData} (T : TP P w K mg base c0 c1 c2 CP) (hi : σ[i]? = some (some vp)) (hp : InsP K CP dk (.tuple rs) vp B) : ED F K (tFld K (tVar i) "rules") σ B (.tuple rs) := ev_fr T (Dx.ev_var (P := InsP K CP dk (.tuple rs)) hi upc_ins hp)
theorem ev_kinds {F : Fm} {σ : L2.St} {B : Hp} {i : Nat} {vp : V} {dk dr : PyData} (T : TP P w K mg base c0 c1 c2 CP) (hi : σ[i]? = some (some vp)) (hp : InsP K CP dk dr vp B) : ED F K (tFld K (tVar i) "kinds") σ B dk := ev_fk T (Dx.ev_var (P := InsP K CP dk dr) hi upc_ins hp)
theorem own_ints {F : Fm} {B0 H0 B H : Hp} {L : List (Addr × HO)} {na : Addr} {S : List Int} (w : Ow F B0 H0 B H ((na, .lst (S.map V.int)) :: L)) (hl : S.length ≤ 1000) : Dd K (shutL B ((na, .lst (S.map V.int)) :: L)) (.ref na) (.list (S.map .int)) := dd_ints (w.shut.2.2 _ List.mem_cons_self) (by omega)
def fLvK (n : Nat) (rs : List PyData) : PyData := .list ((liveL rs n).map .int)

theorem ddAll_mkI {H : Hp} : ∀ S : List Int, DdAll K H (S.map V.int) (S.map .int)
  | [] => .nil
  | n :: S => .cons (.int n) (ddAll_mkI S)

abbrev s_live_kinds : Stmt := topS 77
abbrev N_live_kinds : List Str := ["pairs", "live", "before", "rule"]
theorem sc_live_kinds : FnScope N_live_kinds ["pairs"] (defScope s_live_kinds) := ⟨rfl, rfl, rfl, by decide +kernel, rfl, by decide +kernel, by decide +kernel⟩
theorem ok_live_kinds (F : Fun K "live_kinds" "live_kinds" s_live_kinds f fd) (T : TP P w K mg base c0 c1 c2 CP) (C_is_live : Callee P w K mg base "is_live" 2 ["rule", "live"] (spF K preLive fLive)) : FnOk P w K mg base CX0 3 f fd ["pairs"] (spIns K CP fLvK) := by
  refine F.ok sc_live_kinds (fun vs H Q E h => ?_) (fun cdv A outer s H vs Q E hr h => ?_)
  · obtain ⟨B, vp, n, rs, rfl, _⟩ := h
    rfl
  · obtain ⟨B, vp, n, rs, rfl, e, hp, g, q⟩ := h
    have hu64 : (A.deeper (envOfC "live_kinds" (defScope s_live_kinds) s.heap.objs.size f cdv)).units + 64 < cLine := hr.units
    refine ⟨_, (pss_cons (ps_set (i := 1) sc_live_kinds.nd rfl (Or.inl rfl) (pe_lst pa_nil))
      (pss_cons (ps_set (i := 2) sc_live_kinds.nd rfl (Or.inl rfl) (pe_un un_neg pe_int))
      (pss_cons (ps_while PassesOwn.never (pt_cmpR op_lt (pv 2) (pe_callB (call_lenK K) (by rfl) T.m_len bt_len (pa_cons (pv 1) pa_nil)) (nomark _)) (pss_cons (ps_set (i := 2) sc_live_kinds.nd rfl (Or.inl rfl) (pe_callB (call_lenK K) (by rfl) T.m_len bt_len (pa_cons (pv 1) pa_nil)))
      (pss_one (ps_for PassesOwn.never rfl (pi_seqK K (pe_fldK K (pv 0))) (pg_name (i := 3) sc_live_kinds.nd rfl (Or.inl rfl)) (pss_one (ps_if (PW.pt (pw_and (pt_cmpR (op_ninK K) (pe_ix (ix_seqK K) (pv 3) pe_int (fun _ _ => rfl)) (pv 1) (by rfl)) (pw_and1 (pt_val (pe_callC C_is_live (hr.mono (by decide)) rfl pass0 (pa_cons (pv 3) (pa_cons (pv 1) pa_nil))))))) (pss_one (ps_expr (pe_bm PySem.F.plainAttrs_list PySem.F.slot_list_append PySem.F.type_list_append mt_append (pv 1) (pa_cons (pe_ix (ix_seqK K) (pv 3) pe_int (fun _ _ => rfl)) pa_nil)))) pss_nil))))))
      (pss_one (ps_ret (pv 1)))))), ?_⟩
    have n8 := g.n8
    refine wq_lst (i := 1) (ow_nil (Ok.any e)) fun na w1 => ?_
    refine wq_asg (i := 2) w1 (ed_neg (K := K) (ed_int (i := 1))) fun vb B2 H2 w2 e2 hb => ?_
    obtain rfl := dd_int hb
    refine ⟨fun m σ' H' => ∃ (b : Int) (o3 : Option V) (t : Nat) (B' : Hp), σ' = [some vp, some (.ref na), some (.int b), o3] ∧ Ex B B' ∧ Ow Fm.pure B H B' H' [(na, .lst ((liveN rs t).map V.int))] ∧ ((b = -1 ∧ t = 0) ∨ ∃ t', t = t' + 1 ∧ b = ((liveN rs t').length : Nat)) ∧ m = ((n : Int) + 1 - b).toNat, ⟨_, -1, none, 0, B2, rfl, e2, w2, .inl ⟨rfl, rfl⟩, rfl⟩, ?_⟩
    rintro m σ' H' ⟨b, o3, t, B', rfl, eB, w, hbt, rfl⟩
    have lv := live_lv (n := n) g.rf t
    have hll := lv.len
    have hbn : -1 ≤ b ∧ b ≤ (n : Int) := by
      rcases hbt with ⟨rfl, _⟩ | ⟨t', _, rfl⟩
      · omega
      · have := (live_lv (n := n) g.rf t').len
        omega
    have lenE : ∀ {F : Fm} {σ : L2.St} {B1 : Hp}, σ[1]? = some (some (.ref na)) → Dd K B1 (.ref na) (.list ((liveN rs t).map .int)) → ED F K (tCB (fun xs H Q => ∃ x n, xs = [x] ∧ LenV K x H n ∧ Q (.int (n : Nat)) H) (tCons (tVar 1) tNil)) σ B1 (.int (((liveN rs t).length : Nat) : Int)) := fun h1 h2 => ed_is (ev_cb (eds_cons (ed_var h1 h2) eds_nil) (rc_len rfl)) (by show PyData.int ((((liveN rs t).map PyData.int).length : Nat) : Int) = _; rw [List.length_map])
    have tst : ETt Fm.pure (tTest (tOp (rI0 fun i j => .bl (decide (i < j))) (tVar 2) (tCB (fun xs H Q => ∃ x n, xs = [x] ∧ LenV K x H n ∧ Q (.int (n : Nat)) H) (tCons (tVar 1) tNil)))) [some vp, some (.ref na), some (.int b), o3] (shutL B' [(na, .lst ((liveN rs t).map V.int))]) (decide (b < ((liveN rs t).length : Nat))) := et_cmp (ed_op (ed_var rfl (.int b)) (lenE rfl (own_ints w (by omega))) rd_lt)
    refine tst _ (Ex.refl _) H' w.shut.1.k _ fun B5 H5 s5 k5 => ?_
    have w5 := w.look s5 k5
    by_cases hlt : b < ((liveN rs t).length : Nat)
    · rw [decide_eq_true hlt, if_pos rfl]
      refine ⟨_, fun σ2 H3 q => q, ?_⟩
      refine wl_asg (W := fun v => v = .int (((liveN rs t).length : Nat) : Int)) (i := 2) w5 (EV.imp (lenE rfl (own_ints w5 (by omega))) fun v _ _ g => dd_int g) fun v6 H6 w6 ev => ?_
      subst ev
      refine os_forD (K := K) (F := Fm.pure) (g := gName 3) (ds := rs) w6.k (ev_seqT (ev_rules T rfl (upc_ins _ _ _ eB hp))) (fun i σ' B7 H7 => (∃ o3, σ' = [some vp, some (.ref na), some (.int (((liveN rs t).length : Nat) : Int)), o3]) ∧ Ex B' B7 ∧ Ow Fm.pure B H B7 H7 [(na, .lst ((((rs.take i).foldl stepP (liveN rs t))).map V.int))]) (fun i σ' B7 H7 ⟨_, _, w'⟩ => w'.k.e)
        (fun B7 H7 s7 k7 => ⟨⟨_, rfl⟩, s7.bb, w6.pass s7 k7⟩) (fun Bc i r v σ' B7 H7 hri ec e7 hv hj => ?_) (fun σ' B7 H7 e7 hj => ?_)
      · obtain ⟨⟨o3, rfl⟩, e67, w7⟩ := hj
        have hrm := List.mem_of_getElem? hri
        have hrf := g.rf r hrm
        have lv7 := fold_lv (n := n) (rs := rs.take i) (fun x hx => g.rf x (List.mem_of_mem_take hx)) lv
        have hl7 := lv7.len
        have d7 := own_ints (K := K) w7 (by omega)
        have e7s := w7.shut.2.1
        have hv7 := hv.up e7s
        dsimp only [gName]
        refine wl_if w7 (b := !((rs.take i).foldl stepP (liveN rs t)).contains (hdI r) && livB ((rs.take i).foldl stepP (liveN rs t)) r) (et_and (et_is (et_cmp (ed_op (ed_hd (i := 3) rfl hv7 hrf) (ed_var (i := 1) rfl d7) (rd_notin (.inl rfl) rfl (flatI _)))) (congrArg Bool.not (inD_int _ _))) fun _ => et_val (ed_F (eds_cons (ed_var (i := 3) rfl hv7) (eds_cons (ed_var (i := 1) rfl d7) eds_nil)) ⟨r, n, _, rfl, hrf, by omega⟩ (by show PyData.bool (livB ((((rs.take i).foldl stepP (liveN rs t)).map PyData.int).map numI) r) = _; rw [numI_map]))) (fun hb H8 w8 => ?_) (fun hb H8 w8 => ?_)
        · refine ws_app w8 (i := 1) rfl (ed_hd (i := 3) rfl hv hrf) (by rw [List.length_map]; omega) fun v9 B9 H9 w9 e9 g9 => ?_
          obtain rfl := dd_int g9
          refine ⟨B9, e7.trans e9, ⟨_, rfl⟩, e67.trans e9, ?_⟩
          rw [foldT hri, step_y hb, List.map_append]
          exact w9
        · refine ⟨B7, e7, ⟨_, rfl⟩, e67, ?_⟩
          rw [foldT hri, step_n hb]
          exact w8
      · obtain ⟨⟨o3, rfl⟩, e67, w7⟩ := hj
        rw [List.take_length] at w7
        exact ⟨((n : Int) + 1 - ((liveN rs t).length : Nat)).toNat, by omega, _, _, t + 1, B7, rfl, eB.trans e67, w7, .inr ⟨t, rfl, rfl⟩, rfl⟩
    · rw [decide_eq_false hlt, if_neg (by decide)]
      rcases hbt with ⟨rfl, rfl⟩ | ⟨t', rfl, rfl⟩
      · exact absurd (show (-1 : Int) < ((liveN rs 0).length : Nat) by omega) hlt
      · have st : passL rs (liveN rs t') = liveN rs t' := pass_stable (by
          have : ((liveN rs (t' + 1)).length : Int) ≤ ((liveN rs t').length : Nat) := by omega
          show (liveN rs (t' + 1)).length ≤ _
          omega)
        have e1 : liveN rs (t' + 1) = liveL rs n := by
          rw [← live_at g.rf st]
          exact st
        rw [e1] at w5
        obtain ⟨w6, e6, d6⟩ := w5.dropL (ds := (liveL rs n).map .int) (K := K) (ddAll_mkI _) (by rw [List.length_map]; have := (live_lv (n := n) g.rf (n + 1)).len; show (liveN rs (n + 1)).length ≤ _; omega)
        refine ws_ret w6 (ed_var (i := 1) rfl d6) fun v7 B7 H7 w7 e7 g7 => q _ B7 H7 w7.st g7

abbrev s_live_rules : Stmt := topS 79
abbrev N_live_rules : List Str := ["pairs", "live", "rule"]
theorem sc_live_rules : FnScope N_live_rules ["pairs", "live"] (defScope s_live_rules) := ⟨rfl, rfl, rfl, by decide +kernel, rfl, by decide +kernel, by decide +kernel⟩
def spLR (K : PySem.W.Frag) (CP : Addr) : Sp := fun vs H Q _ => ∃ (B : Hp) (vp vl : V) (n : Nat) (rs : List PyData) (L : List Int), vs = [vp, vl] ∧ Ex B H ∧ InsP K CP (.int (n : Nat)) (.tuple rs) vp B ∧ Gs n rs ∧ Dd K B vl (.list (L.map .int)) ∧ L.length ≤ 100 ∧ ∀ v' B' H', Step (fun _ => False) B H B' H' → Dd K B' v' (.list (rs.filter (livB L))) → Q v' H'
theorem ok_live_rules (F : Fun K "live_rules" "live_rules" s_live_rules f fd) (T : TP P w K mg base c0 c1 c2 CP) (C_is_live : Callee P w K mg base "is_live" 2 ["rule", "live"] (spF K preLive fLive)) : FnOk P w K mg base CX0 3 f fd ["pairs", "live"] (spLR K CP) := by
  refine F.ok sc_live_rules (fun vs H Q E h => ?_) (fun cdv A outer s H vs Q E hr h => ?_)
  · obtain ⟨B, vp, vl, n, rs, L, rfl, _⟩ := h
    rfl
  · obtain ⟨B, vp, vl, n, rs, L, rfl, e, hp, g, hl, hL, q⟩ := h
    refine ⟨_, (pss_one (ps_ret (pe_lc (own := [("rule", 2)]) rfl sc_live_rules.nd (pi_seqK K (pe_fldK K (pv 0))) (blkOk_by (own := [("rule", 2)]) (N := N_live_rules) (sc := defScope s_live_rules) (by decide +kernel)) (fun _ _ _ _ _ => pg_name (i := 2) sc_live_rules.nd rfl (Or.inl rfl)) (fun _ _ _ _ _ => (pts_one (pt_val (pe_callC C_is_live (hr.mono (by decide)) rfl pass0 (pa_cons (pv 2) (pa_cons (pv 1) pa_nil)))))) (fun _ _ _ _ _ => (pv 2))))), ?_⟩
    have a : At Fm.pure B H B H := At.start (Ok.any e)
    have l9 := g.l9
    refine sv_ret (P := DD K (.list (rs.filter (livB L)))) a (ed_is (ed_lcD (K := K) (ds := rs) (livB L) (fun d => d) (ev_seqT (ev_rules T rfl hp)) (by omega) (fun _ => rfl) (fun d v B1 hm e1 hv => et_val (ed_F (eds_cons (ed_var (i := 2) rfl hv) (eds_cons (ed_var (i := 1) rfl (hl.up e1)) eds_nil)) ⟨d, n, L, rfl, g.rf d hm, hL⟩ (by show PyData.bool (livB ((L.map PyData.int).map numI) d) = _; rw [numI_map]))) (fun d v B1 hm _ e1 hv => ed_var (i := 2) rfl hv)) (by rw [List.map_id'])) fun v1 B2 H2 e2 a2 h2 => q _ B2 H2 a2.st h2

/-! ### _law_live -/
def fLLv : List PyData → PyData
  | [.tuple [.int n, .tuple rs]] => .list ((liveL rs n.toNat).map .int)
  | _ => .none
def preGr (ds : List PyData) : Prop := ∃ (n : Nat) (rs : List PyData), ds = [.tuple [.int (n : Nat), .tuple rs]] ∧ Gs n rs
theorem liv_emp (L : List Int) (r : PyData) : ((prtL r).filter fun x => !L.contains x).isEmpty = livB L r := by
  rw [filter_emp]
  unfold livB
  congr 1
  funext x
  rw [Bool.not_not]
end
end K50

namespace K50
open PySem PySem.Spec PyProof.Rows L2 Evl Ex Dx StX
open PySem.PyData (strOk)
section
variable {P : Program} {w : World} {K : PySem.W.Frag} {mg : Str → Option Value} {base : Heap} {f : Addr} {fd : FuncData}


/-! ### live_steps -/
def stE (rows : List PyData) : List (Int × Int) := rows.flatMap fun r => (prtL r).map fun c => (hdI r, c)
def lsE (rs : List PyData) (L : List Int) : List (Int × Int) := stE (rs.filter (livB L))
theorem stE_len {n : Nat} : ∀ {rows : List PyData}, (∀ r ∈ rows, RF n r) → (stE rows).length ≤ 2 * rows.length
  | [], _ => Nat.le_refl _
  | r :: rows, h => by
    have h1 := (h r List.mem_cons_self).parts.1
    have h2 := stE_len (rows := rows) fun x hx => h x (List.mem_cons_of_mem _ hx)
    show ((prtL r).map (fun c => (hdI r, c)) ++ stE rows).length ≤ 2 * (rows.length + 1)
    rw [List.length_append, List.length_map]
    omega
theorem stE_mem {rows : List PyData} {a b : Int} : (a, b) ∈ stE rows ↔ ∃ r ∈ rows, hdI r = a ∧ b ∈ prtL r := by
  unfold stE
  rw [List.mem_flatMap]
  constructor
  · rintro ⟨r, hr, h⟩
    obtain ⟨c, hc, e⟩ := List.mem_map.mp h
    cases e
    exact ⟨r, hr, rfl, hc⟩
  · rintro ⟨r, hr, rfl, h⟩
    exact ⟨r, hr, List.mem_map.mpr ⟨b, h, rfl⟩⟩
theorem stE_in {n : Nat} {rows : List PyData} (h : ∀ r ∈ rows, RF n r) (a b : Int) (hm : (a, b) ∈ stE rows) : (0 ≤ a ∧ a < (n : Int)) ∧ 0 ≤ b ∧ b < (n : Int) := by
  obtain ⟨r, hr, rfl, hb⟩ := stE_mem.mp hm
  exact ⟨(h r hr).hd, (h r hr).parts.2 b hb⟩
theorem lsE_rf {n : Nat} {rs : List PyData} (h : ∀ r ∈ rs, RF n r) (L : List Int) : ∀ r ∈ rs.filter (livB L), RF n r := fun r hr => h r (List.mem_filter.mp hr).1
theorem stE_snoc {rows : List PyData} {i : Nat} {r : PyData} (h : rows[i]? = some r) : stE (rows.take (i + 1)) = stE (rows.take i) ++ (prtL r).map fun c => (hdI r, c) := by
  rw [take_snoc h]
  unfold stE
  rw [List.flatMap_append, List.flatMap_cons, List.flatMap_nil, List.append_nil]
theorem adj_app (E E' : List (Int × Int)) (k : Int) : adj (E ++ E') k = adj E k ++ adj E' k := by
  unfold adj
  rw [List.filter_append, List.map_append]
theorem adj_row (a k : Int) : ∀ S : List Int, adj (S.map fun c => (a, c)) k = if a = k then S else []
  | [] => by
    split <;> rfl
  | c :: S => by
    have ih := adj_row a k S
    unfold adj at ih ⊢
    rw [List.map_cons, List.filter_cons]
    by_cases h : a = k
    · rw [if_pos (beq_iff_eq.mpr h), List.map_cons, ih, if_pos h, if_pos h]
    · rw [if_neg (fun z => h (beq_iff_eq.mp z)), ih, if_neg h, if_neg h]
variable {c0 c1 c2 CP : Addr}
def spLS (K : PySem.W.Frag) (CP : Addr) : Sp := fun vs H Q _ => ∃ (B : Hp) (vp vl : V) (n : Nat) (rs : List PyData) (L : List Int), vs = [vp, vl] ∧ Ex B H ∧ InsP K CP (.int (n : Nat)) (.tuple rs) vp B ∧ Gs n rs ∧ Dd K B vl (.list (L.map .int)) ∧ L.length ≤ 100 ∧ ∀ v' B' H', Step (fun _ => False) B H B' H' → Dd K B' v' (adjD (lsE rs L) n) → Q v' H'

abbrev s_live_steps : Stmt := topS 80
abbrev N_live_steps : List Str := ["pairs", "live", "steps", "rule", "_"]
theorem sc_live_steps : FnScope N_live_steps ["pairs", "live"] (defScope s_live_steps) := ⟨rfl, rfl, rfl, by decide +kernel, rfl, by decide +kernel, by decide +kernel⟩
theorem ok_live_steps (F : Fun K "live_steps" "live_steps" s_live_steps f fd) (T : TP P w K mg base c0 c1 c2 CP) (C_part_kinds : Callee P w K mg base "part_kinds" 1 ["rule"] (spF K preRF fPts)) (C_live_rules : Callee P w K mg base "live_rules" 3 ["pairs", "live"] (spLR K CP)) : FnOk P w K mg base CX0 4 f fd ["pairs", "live"] (spLS K CP) := by
  refine F.ok sc_live_steps (fun vs H Q E h => ?_) (fun cdv A outer s H vs Q E hr h => ?_)
  · obtain ⟨B, vp, vl, n, rs, L, rfl, _⟩ := h
    rfl
  · obtain ⟨B0, vp, vl, n, rs, L, rfl, e0, hp0, g, hl0, hL, q⟩ := h
    refine ⟨_, (pss_cons (ps_setLc (i := 2) (own := [("_", 4)]) rfl sc_live_steps.nd rfl rfl (sw_true rfl rfl rfl (by decide +kernel)) (pi_range1 rfl T.m_range (pa_cons (pe_fldK K (pv 0)) pa_nil)) (blkOk_by (own := [("_", 4)]) (N := N_live_steps) (sc := defScope s_live_steps) (by decide +kernel)) (fun _ _ _ _ _ => pg_name (i := 4) sc_live_steps.nd rfl (Or.inl rfl)) (fun _ _ _ _ _ => pts_nil) (fun _ _ _ _ _ => (pe_lst pa_nil)))
      (pss_cons (ps_for PassesOwn.never rfl (pi_seqK K (pe_callC C_live_rules (hr.mono (by decide)) rfl pass0 (pa_cons (pv 0) (pa_cons (pv 1) pa_nil)))) (pg_name (i := 3) sc_live_steps.nd rfl (Or.inl rfl)) (pss_one (ps_expr (pe_bm PySem.F.plainAttrs_list PySem.F.slot_list_extend PySem.F.type_list_extend (Qx.mt_extendT K) (pe_ix (ix_seqK K) (pv 2) (pe_ix (ix_seqK K) (pv 3) pe_int (fun _ _ => rfl)) (fun _ _ => rfl)) (pa_cons (pe_callC C_part_kinds (hr.mono (by decide)) rfl pass0 (pa_cons (pv 3) pa_nil)) pa_nil)))))
      (pss_one (ps_ret (pv 2))))), ?_⟩
    have hn := g.n8
    refine ev_kinds T rfl hp0 B0 (Ex.refl B0) H (Ok.any e0) _ fun vk B H0 s0 k0 gk => ?_
    obtain rfl := dd_int gk
    have e : Ex B H0 := k0.e
    have hp := upc_ins _ _ _ s0.bb hp0
    have hl := hl0.up s0.bb
    refine ⟨(n : Nat), rfl, by omega, by omega, fun Dl hDl => lc_range (lo := 0) (n := n) (fun i H' => ∃ refs : List Addr, refs.length = i ∧ Rep H0 H' Dl refs fun _ => []) ⟨[], rfl, Ex.new hDl, hDl, upd_same, List.nodup_nil, fun i r h => by simp at h⟩ (fun i H' hi ⟨refs, hlen, R⟩ => ?_) (fun H1 ⟨refs, hlen, R⟩ => ?_)⟩
    · refine ⟨rfl, ?_⟩
      show _ ∧ _
      refine ⟨Nat.zero_le _, fun a ha => ?_⟩
      have hal : a ≠ Dl := fun z => by rw [z, R.hD] at ha; cases ha
      have h0a : H0 a = none := fresh_back R.ex ha
      refine ⟨refs.map V.ref, by rw [upd_ne (Ne.symm hal)]; exact R.hD, by rw [List.length_map, sizeLine_eq, hlen]; omega, refs ++ [a], by rw [List.length_append, hlen]; rfl, ?_⟩
      refine ⟨fun x o h => ?_, R.fD, by rw [upd_same, List.map_append]; rfl, ?_, fun j r hj => ?_⟩
      · have n1 : x ≠ a := ne_of_none h h0a
        have n2 : x ≠ Dl := ne_of_none h R.fD
        rw [upd_ne n2, upd_ne n1]
        exact R.ex _ _ h
      · rw [List.nodup_append]
        refine ⟨R.nd, by simp, fun x hx y hy => ?_⟩
        rw [List.mem_singleton] at hy
        subst hy
        obtain ⟨j, hj⟩ := List.getElem?_of_mem hx
        intro z
        subst z
        rw [(R.it j x hj).2.2] at ha
        cases ha
      · by_cases hlt : j < refs.length
        · rw [List.getElem?_append_left hlt] at hj
          obtain ⟨r1, r2, r3⟩ := R.it j r hj
          refine ⟨r1, r2, ?_⟩
          have n1 : r ≠ a := fun z => by rw [z, ha] at r3; cases r3
          rw [upd_ne r2, upd_ne n1]
          exact r3
        · rw [List.getElem?_append_right (by omega)] at hj
          have hj0 : j - refs.length = 0 := by
            have := (List.getElem?_eq_some_iff.mp hj).1
            simp at this
            omega
          rw [hj0] at hj
          obtain rfl : a = r := by simpa using hj
          exact ⟨h0a, hal, by rw [upd_ne hal, upd_same]; rfl⟩
    · have hrf := lsE_rf g.rf L
      have hlr : (rs.filter (livB L)).length ≤ 12 := Nat.le_trans (List.length_filter_le _ _) g.l9
      have kB : Ok Fm.pure B H1 := Ok.any (e.trans R.ex)
      have cal : ED Fm.pure K (tCall (spLR K CP) [] E0 (tCons (tVar 0) (tCons (tVar 1) tNil))) [some vp, some vl, some (.ref Dl), none, none] B (.list (rs.filter (livB L))) := fun B1 e1 H2 j1 Q1 q1 =>
        ⟨vp, rfl, vl, rfl, B1, vp, vl, n, rs, L, rfl, j1.e, upc_ins _ _ _ e1 hp, g, hl.up e1, hL, fun v' B' H' s h => q1 v' B' H' s.pure (j1.pure s) h⟩
      refine cal B (Ex.refl B) H1 kB _ fun vr B2 H2 s2 k2 gr => ?_
      obtain ⟨t, us, rfl, ht, _, htd⟩ := dd_lst gr
      have R2 := R.mono s2.ex
      have bD : B2 Dl = none := s2.sep Dl (fresh_back e R.fD) ⟨_, R.hD, trivial⟩
      have bR : ∀ i r, refs[i]? = some r → B2 r = none := fun i r h => by
        obtain ⟨r1, _, r3⟩ := R.it i r h
        exact s2.sep r (fresh_back e r1) ⟨_, r3, trivial⟩
      refine ⟨t, rfl, .inl ⟨⟨us, sq_of (k2.e _ _ ht)⟩, for_list (K := K) (xs := us) (fun i σ' H' => (∃ o, σ' = [some vp, some vl, some (.ref Dl), o, none]) ∧ Ex B2 H' ∧ Rep H0 H' Dl refs fun k => adj (stE ((rs.filter (livB L)).take i)) (k : Nat)) ⟨⟨none, rfl⟩, k2.e, R2⟩ (fun i σ' H' _ ⟨_, e', _⟩ => sq_of (e' _ _ ht)) (fun i x σ' H' hx ⟨⟨o, ho⟩, e', R'⟩ => ?_) (fun σ' H' ⟨⟨o, ho⟩, e', R'⟩ => ?_)⟩⟩
      · subst ho
        obtain ⟨r, hr1, hrd⟩ := htd.getv hx
        have hrfr := hrf r (List.mem_of_getElem? hr1)
        have ia : ED Fm.pure K (tOp (rIx K) (tVar 3) (tC (.int 0))) [some vp, some vl, some (.ref Dl), some x, none] B2 (.int (hdI r)) := ed_hd rfl hrd hrfr
        obtain ⟨ha0, ha1⟩ := hrfr.hd
        refine ⟨.ref Dl, rfl, ?_⟩
        refine ia B2 (Ex.refl B2) H' (Ok.any e') _ fun va B3 H3 s3 j3 ga => ?_
        obtain rfl := dd_int ga
        have R3 := R'.mono s3.ex
        have e3 : Ex B2 H3 := e'.trans s3.ex
        have hlt : (hdI r).toNat < refs.length := by rw [hlen]; omega
        obtain ⟨rf, hrr⟩ : ∃ rf, refs[(hdI r).toNat]? = some rf := ⟨_, List.getElem?_eq_getElem hlt⟩
        have en : (((hdI r).toNat : Nat) : Int) = hdI r := by omega
        refine .inl ⟨Dl, refs.map V.ref, hdI r, .ref rf, rfl, rfl, sq_of R3.hD, at_of en.symm (by rw [List.getElem?_map, hrr]; rfl), ?_⟩
        obtain ⟨r1, r2, r3⟩ := R3.it _ rf hrr
        refine ⟨.inl ⟨rfl, _, sq_of r3⟩, ?_⟩
        have ic : ED Fm.pure K (tCall (spF K preRF fPts) [] E0 (tCons (tVar 3) tNil)) [some vp, some vl, some (.ref Dl), some x, none] B2 (.tuple ((prtL r).map .int)) := ed_F (eds_cons (ed_var rfl hrd) eds_nil) ⟨r, n, rfl, hrfr⟩ rfl
        refine ic B2 (Ex.refl B2) H3 (Ok.any e3) _ fun vc B4 H4 s4 j4 gc => ?_
        obtain ⟨tb, ub, rfl, htb, _, hub⟩ := dd_tup gc
        obtain rfl := ddAll_ints hub
        have R4 := R3.mono s4.ex
        have e4 : Ex B2 H4 := e3.trans s4.ex
        obtain ⟨q1, q2, q3⟩ := R4.it _ rf hrr
        refine ⟨rf, tb, _, _, rfl, rfl, q3, ex_t j4.e htb, ?_, ⟨_, rfl⟩, ?_⟩
        · have h1 := adj_len (stE ((rs.filter (livB L)).take i)) (((hdI r).toNat : Nat) : Int)
          have h2 := stE_len (n := n) (rows := (rs.filter (livB L)).take i) fun x hx => hrf x (List.mem_of_mem_take hx)
          have h3 : ((rs.filter (livB L)).take i).length ≤ (rs.filter (livB L)).length := by rw [List.length_take]; exact Nat.min_le_right _ _
          have h4 := hrfr.parts.1
          rw [List.length_map, List.length_map, sizeLine_eq]
          omega
        · refine ⟨fun y o h => ?_, ⟨fun y o h => ?_, R4.fD, by rw [upd_ne (Ne.symm q2)]; exact R4.hD, R4.nd, fun j y hy => ?_⟩⟩
          · rw [upd_ne (ne_of_none h (bR _ _ hrr))]
            exact e4 _ _ h
          · rw [upd_ne (ne_of_none h q1)]
            exact R4.ex _ _ h
          · obtain ⟨y1, y2, y3⟩ := R4.it j y hy
            refine ⟨y1, y2, ?_⟩
            show upd H4 rf _ y = some (.lst ((adj (stE ((rs.filter (livB L)).take (i + 1))) ((j : Nat) : Int)).map V.int))
            rw [stE_snoc hr1, adj_app, adj_row]
            by_cases hj : j = (hdI r).toNat
            · subst hj
              rw [hrr] at hy
              cases hy
              rw [upd_same, if_pos en.symm, List.map_append]
            · have nyr : y ≠ rf := fun z => by
                subst z
                exact hj ((List.getElem?_inj (List.getElem?_eq_some_iff.mp hy).1 R4.nd).mp (hy.trans hrr.symm))
              rw [upd_ne nyr, if_neg (by omega), List.append_nil]
              exact y3
      · subst ho
        refine ⟨.ref Dl, rfl, ?_⟩
        have lr : us.length = (rs.filter (livB L)).length := htd.len
        rw [lr, List.take_length] at R'
        refine q (.ref Dl) (rst B H0 H') H' (s0.trans (rst_step e R'.ex)) ?_
        refine R'.data e hlen (by omega) fun i _ => ?_
        have h1 := adj_len (stE (rs.filter (livB L))) ((i : Nat) : Int)
        have h2 := stE_len hrf
        omega

end
end K50

namespace K50
open PySem PySem.Spec PyProof.Rows L2 Evl Ex Dx StX
open PySem.PyData (strOk)
section
variable {P : Program} {w : World} {K : PySem.W.Frag} {mg : Str → Option Value} {base : Heap} {f : Addr} {fd : FuncData}


theorem evs_starL {F : Fm} {σ : L2.St} {B : Hp} {te : TE} {t : TA} {es : List PyData} {R : List PyData → Prop} (h : EV F te σ B (fun v B => ∃ ds, R ds ∧ Dd K B v (.list ds))) (hs : ∀ B1, Ex B B1 → EDs F K t σ B1 es) : EVs F (tStar K te t) σ B (fun vs B => ∃ ds, R ds ∧ DdAll K B vs (ds ++ es)) := fun B1 e0 H k Q q => h B1 e0 H k _ fun v B2 H2 s2 k2 ⟨ds, r, g⟩ => by
  obtain ⟨a, xs, rfl, h1, _, g1⟩ := dd_lst g
  exact ⟨a, xs, rfl, .inr (sq_of (k2.e _ _ h1)), hs B2 (e0.trans s2.bb) B2 (Ex.refl B2) H2 k2 _ fun us B3 H3 s3 k3 gs => q _ B3 H3 (s2.trans s3) k3 ⟨ds, r, (g1.up s3.bb).app gs⟩⟩
/-! ### kinds_in_use -/
/-- what kinds_behind answers -/
structure KBs (E : List (Int × Int)) (k : Int) (S : List Int) : Prop where
  m : ∀ x, x ∈ S ↔ Gm.Rch E k x
  run : KRun E [] [k] S
  len : S.length ≤ 1000
structure Eg (n : Nat) (E : List (Int × Int)) : Prop where
  rg : ∀ a b, (a, b) ∈ E → (0 ≤ a ∧ a < (n : Int)) ∧ 0 ≤ b ∧ b < (n : Int)
  n8 : n ≤ 8
  n1 : 1 ≤ n
  len : E.length ≤ 100
theorem Gs.eg {n : Nat} {rs : List PyData} (g : Gs n rs) (L : List Int) : Eg n (lsE rs L) := ⟨fun a b h => stE_in (lsE_rf g.rf L) a b h, g.n8, g.n1, by
  have h1 := stE_len (lsE_rf g.rf L)
  have h2 : (rs.filter (livB L)).length ≤ 12 := Nat.le_trans (List.length_filter_le _ _) g.l9
  show (stE (rs.filter (livB L))).length ≤ 100
  omega⟩
theorem ev_kb {F : Fm} {σ : L2.St} {B : Hp} {i : Nat} {te : TE} {v0 : V} {n k : Nat} {E : List (Int × Int)} (hi : σ[i]? = some (some v0)) (hv : Dd K B v0 (adjD E n)) (hk : ED F K te σ B (.int (k : Nat))) (g : Eg n E) (hkn : k < n) : EV F (tCall (spKB K) [] E0 (tCons (tVar i) (tCons te tNil))) σ B (fun v B => ∃ S, KBs E (k : Nat) S ∧ Dd K B v (.list (S.map .int))) := fun B1 e1 H1 j1 Q1 q1 =>
  ⟨v0, hi, hk B1 e1 H1 j1 _ fun v2 B2 H2 s2 j2 g2 => ⟨B2, E, n, k, v0, j2.e, by rw [dd_int g2]; rfl, hv.up (e1.trans s2.bb), fun a b h => (g.rg a b h).2, hkn, by have := g.n8; omega, g.len, fun v' B' H' S s h hm hr hl => q1 v' B' H' (s2.trans s.pure) (j2.pure s) ⟨S, ⟨hm, hr, by have := g.n8; omega⟩, h⟩⟩⟩

def spKU (K : PySem.W.Frag) : Sp := fun vs H Q _ => ∃ (B : Hp) (v0 : V) (n : Nat) (E : List (Int × Int)), vs = [v0] ∧ Ex B H ∧ Dd K B v0 (adjD E n) ∧ Eg n E ∧ ∀ v' B' H' S, Step (fun _ => False) B H B' H' → KBs E 0 S → Dd K B' v' (.list ((0 :: S).map .int)) → Q v' H'

abbrev s_kinds_in_use : Stmt := topS 81
abbrev N_kinds_in_use : List Str := ["steps"]
theorem sc_kinds_in_use : FnScope N_kinds_in_use ["steps"] (defScope s_kinds_in_use) := ⟨rfl, rfl, rfl, by decide +kernel, rfl, by decide +kernel, by decide +kernel⟩
theorem ok_kinds_in_use (F : Fun K "kinds_in_use" "kinds_in_use" s_kinds_in_use f fd) (C_kinds_behind : Callee P w K mg base "kinds_behind" 1 ["steps", "kind"] (spKB K)) : FnOk P w K mg base CX0 2 f fd ["steps"] (spKU K) := by
  refine F.ok sc_kinds_in_use (fun vs H Q E h => ?_) (fun cdv A outer s H vs Q E hr h => ?_)
  · obtain ⟨B, v0, n, E, rfl, _⟩ := h
    rfl
  · obtain ⟨B, v0, n, ED_, rfl, e, hv, g, q⟩ := h
    refine ⟨_, (pss_one (ps_ret (pe_lst (pa_cons pe_int (pa_star (pe_callC C_kinds_behind (hr.mono (by decide)) rfl pass0 (pa_cons (pv 0) (pa_cons pe_int pa_nil))) pa_nil))))), ?_⟩
    have a : At Fm.pure B H B H := At.start (Ok.any e)
    have tl : EVs Fm.pure (tStar K (tCall (spKB K) [] E0 (tCons (tVar 0) (tCons (tC (.int 0)) tNil))) tNil) [some v0] B (fun vs B => ∃ ds, (∃ S, KBs ED_ 0 S ∧ ds = S.map .int) ∧ DdAll K B vs (ds ++ [])) := evs_starL (EV.imp (ev_kb (k := 0) rfl hv (ed_int (i := 0)) g g.n1) fun v _ _ ⟨S, h, d⟩ => ⟨_, ⟨S, h, rfl⟩, d⟩) fun _ _ => eds_nil
    have tc : EVs Fm.pure (tCons (tC (.int 0)) (tStar K (tCall (spKB K) [] E0 (tCons (tVar 0) (tCons (tC (.int 0)) tNil))) tNil)) [some v0] B (fun vs B => ∃ S, KBs ED_ 0 S ∧ DdAll K B vs ((0 :: S).map .int)) := fun B1 e1 H1 j1 Q1 q1 =>
      (ed_int (K := K) (F := Fm.pure) (σ := [some v0]) (B := B) (i := 0)) B1 e1 H1 j1 _ fun v2 B2 H2 s2 j2 g2 => tl B2 (e1.trans s2.bb) H2 j2 _ fun us B3 H3 s3 j3 ⟨ds, ⟨S, hS, eds⟩, gs⟩ => q1 _ B3 H3 (s2.trans s3) j3 ⟨S, hS, .cons (Dd.up g2 s3.bb) (by
        rw [eds, List.append_nil] at gs
        exact gs)⟩
    refine sv_ret (P := fun v B => ∃ S, KBs ED_ 0 S ∧ Dd K B v (.list ((0 :: S).map .int))) a (tc.newL (fun vs B1 _ ⟨S, hS, g⟩ => ?_) fun vs p B1 _ ⟨S, hS, g⟩ hp => ⟨S, hS, .lst upd_same ?_ (g.up (Ex.new hp))⟩) fun v1 B2 H2 e2 a2 ⟨S, hS, h2⟩ => q _ B2 H2 S a2.st hS h2
    · have := hS.len
      rw [g.len, List.length_map, sizeLine_eq]
      show S.length + 1 ≤ _
      omega
    · have := hS.len
      rw [g.len, List.length_map, sizeLine_eq]
      show S.length + 1 ≤ _
      omega


/-! ### _law_below, _law_comes_back, _law_in_use -/
def preB (ds : List PyData) : Prop := ∃ (E : List (Int × Int)) (n : Nat) (k : Int), ds = [.list (E.map toD), .int k, .int (n : Nat)] ∧ E.length ≤ 100 ∧ n ≤ 40
def fBel : List PyData → PyData
  | [.list es, .int k, .int n] => .list ((Gm.turns (es.map ofD) k (n.toNat + 1)).map .int)
  | _ => .none
def fBack2 : List PyData → PyData
  | [.list es, .int k, .int n] => .bool ((Gm.turns (es.map ofD) k (n.toNat + 1)).contains k)
  | _ => .none
theorem fBel_eq (E : List (Int × Int)) (k : Int) (n : Nat) : fBel [.list (E.map toD), .int k, .int (n : Nat)] = .list ((Gm.turns E k (n + 1)).map .int) := by
  show PyData.list ((Gm.turns ((E.map toD).map ofD) k (((n : Nat) : Int).toNat + 1)).map .int) = _
  rw [ofD_toD]
  rfl
theorem fBack2_eq (E : List (Int × Int)) (k : Int) (n : Nat) : fBack2 [.list (E.map toD), .int k, .int (n : Nat)] = .bool ((Gm.turns E k (n + 1)).contains k) := by
  show PyData.bool ((Gm.turns ((E.map toD).map ofD) k (((n : Nat) : Int).toNat + 1)).contains k) = _
  rw [ofD_toD]
  rfl
theorem turns_small {E : List (Int × Int)} {k : Int} {n t : Nat} (hl : E.length ≤ 100) (ht : t ≤ 41) : (Gm.turns E k t).length ≤ 4100 := Nat.le_trans (Gm.turns_len E k t) (Nat.le_trans (Nat.mul_le_mul ht hl) (by decide))

theorem filter_take_snoc {rs : List PyData} {i : Nat} {r : PyData} (h : rs[i]? = some r) (p : PyData → Bool) : stE ((rs.take (i + 1)).filter p) = stE ((rs.take i).filter p) ++ (if p r = true then (prtL r).map fun c => (hdI r, c) else []) := by
  rw [take_snoc h, List.filter_append]
  unfold stE
  rw [List.flatMap_append]
  congr 1
  by_cases hp : p r = true
  · rw [if_pos hp, List.filter_cons, if_pos hp]
    show ((prtL r).map fun c => (hdI r, c)) ++ [] = _
    rw [List.append_nil]
  · rw [if_neg hp, List.filter_cons, if_neg hp]
    rfl
def fUse : List PyData → PyData
  | [.tuple [.int n, .tuple rs]] => .list ((0 :: Gm.turns (lsE rs (liveL rs n.toNat)) 0 (n.toNat + 1)).map .int)
  | _ => .none
/-- [(rule[0], part) for part in _law_parts(rule)] -/
theorem row_toD {r : PyData} (d : List PyData) (h : d = (prtL r).map .int) : ((d.filter fun _ => true).map fun x => PyData.tuple [.int (hdI r), x]) = ((prtL r).map fun c => (hdI r, c)).map toD := by
  rw [List.filter_eq_self.mpr (fun _ _ => rfl), h, List.map_map, List.map_map]
  rfl

end
end K50

namespace K50
open PySem PySem.Spec PyProof.Rows L2 Evl Ex Dx StX
open PySem.PyData (strOk)
section
variable {P : Program} {w : World} {K : PySem.W.Frag} {mg : Str → Option Value} {base : Heap} {f : Addr} {fd : FuncData}

theorem sub_len {α : Type} [DecidableEq α] : ∀ {l L : List α}, l.Nodup → (∀ x ∈ l, x ∈ L) → l.length ≤ L.length
  | [], _, _, _ => Nat.zero_le _
  | a :: l, L, hn, h => by
    have hn' := List.nodup_cons.mp hn
    have ih := sub_len (l := l) (L := L.erase a) hn'.2 fun x hx => (List.mem_erase_of_ne (fun z : x = a => hn'.1 (z ▸ hx))).mpr (h x (List.mem_cons_of_mem _ hx))
    have hm := h a List.mem_cons_self
    rw [List.length_erase_of_mem hm] at ih
    have hp : 0 < L.length := List.length_pos_of_mem hm
    rw [List.length_cons]
    omega


/-! ### orders -/
def Acy (E : List (Int × Int)) : Prop := ∀ k, ¬ Gm.Rch E k k
structure Topo (E : List (Int × Int)) (n : Nat) (O : List Int) : Prop where
  lv : LV n O
  ord : ∀ i k, O[i]? = some k → ∀ b, (k, b) ∈ E → b ∈ O.take i
theorem topo_nil {E : List (Int × Int)} {n : Nat} : Topo E n [] := ⟨lv_nil, fun i k h => by simp at h⟩
theorem Topo.snoc {E : List (Int × Int)} {n : Nat} {O : List Int} (h : Topo E n O) {k : Int} (hk : 0 ≤ k ∧ k < (n : Int)) (hn : k ∉ O) (hb : ∀ b, (k, b) ∈ E → b ∈ O) : Topo E n (O ++ [k]) := by
  refine ⟨⟨?_, fun x hx => ?_⟩, fun i j hj b hE => ?_⟩
  · rw [List.nodup_append]
    refine ⟨h.lv.nd, by simp, fun a ha b hb2 z => ?_⟩
    rw [List.mem_singleton.mp hb2] at z
    exact hn (z ▸ ha)
  · rcases List.mem_append.mp hx with hx | hx
    · exact h.lv.rg x hx
    · rw [List.mem_singleton.mp hx]
      exact hk
  · by_cases hi : i < O.length
    · rw [List.getElem?_append_left hi] at hj
      rw [List.take_append_of_le_length (by omega)]
      exact h.ord i j hj b hE
    · have hlt := (List.getElem?_eq_some_iff.mp hj).1
      rw [List.length_append, List.length_singleton] at hlt
      have ei : i = O.length := by omega
      subst ei
      rw [List.getElem?_append_right (Nat.le_refl _), Nat.sub_self] at hj
      obtain rfl : k = j := by simpa using hj
      rw [List.take_append_of_le_length (Nat.le_refl _), List.take_length]
      exact hb b hE
section
variable {E : List (Int × Int)} {n : Nat} {O : List Int}
theorem least (ac : Acy E) (hE : ∀ a b, (a, b) ∈ E → 0 ≤ b ∧ b < (n : Int)) {k0 : Int} (hk : 0 ≤ k0 ∧ k0 < (n : Int)) (h0 : k0 ∉ O) : ∃ k, (0 ≤ k ∧ k < (n : Int)) ∧ k ∉ O ∧ ∀ b, (k, b) ∈ E → b ∈ O := by
  apply Classical.byContradiction
  intro hno
  have nx : ∀ k : { k : Int // (0 ≤ k ∧ k < (n : Int)) ∧ k ∉ O }, ∃ b : { k : Int // (0 ≤ k ∧ k < (n : Int)) ∧ k ∉ O }, (k.1, b.1) ∈ E := fun k => by
    apply Classical.byContradiction
    intro hb
    refine hno ⟨k.1, k.2.1, k.2.2, fun b hE2 => ?_⟩
    apply Classical.byContradiction
    intro hbO
    exact hb ⟨⟨b, hE _ _ hE2, hbO⟩, hE2⟩
  let sq : Nat → { k : Int // (0 ≤ k ∧ k < (n : Int)) ∧ k ∉ O } := fun i => Nat.rec ⟨k0, hk, h0⟩ (fun _ x => Classical.choose (nx x)) i
  have st : ∀ i, ((sq i).1, (sq (i + 1)).1) ∈ E := fun i => Classical.choose_spec (nx (sq i))
  have rc : ∀ i d, Gm.Rch E (sq i).1 (sq (i + d + 1)).1 := fun i d => by
    induction d with
    | zero => exact .one (st i)
    | succ d ih => exact .more ih (st (i + d + 1))
  have nd : ((List.range (n + 1)).map fun i => (sq i).1).Nodup := List.Pairwise.map _ (fun a b hab z => by
    have := rc a (b - a - 1)
    rw [show a + (b - a - 1) + 1 = b by omega, ← z] at this
    exact ac _ this) List.pairwise_lt_range
  have := Gm.pig n _ nd fun x hx => by
    obtain ⟨i, _, rfl⟩ := List.mem_map.mp hx
    exact (sq i).2.1
  rw [List.length_map, List.length_range] at this
  omega
theorem lv_full (h : LV n O) (hl : O.length < n) : ∃ k : Int, (0 ≤ k ∧ k < (n : Int)) ∧ k ∉ O := by
  apply Classical.byContradiction
  intro hno
  have hall : ∀ k : Nat, k < n → (k : Int) ∈ O := fun k hk => by
    apply Classical.byContradiction
    intro h2
    exact hno ⟨k, ⟨by omega, by omega⟩, h2⟩
  have nd : ((List.range n).map fun i : Nat => (i : Int)).Nodup := List.Pairwise.map _ (fun a b hab z => by
    have : (a : Int) = (b : Int) := z
    omega) List.pairwise_lt_range
  have := sub_len nd (L := O) fun x hx => by
    obtain ⟨i, hi, rfl⟩ := List.mem_map.mp hx
    exact hall i (List.mem_range.mp hi)
  rw [List.length_map, List.length_range] at this
  omega
theorem lv_all (h : LV n O) (hl : n ≤ O.length) {k : Int} (hk : 0 ≤ k ∧ k < (n : Int)) : k ∈ O := by
  apply Classical.byContradiction
  intro hno
  have h2 : LV n (O ++ [k]) := ⟨by
    rw [List.nodup_append]
    refine ⟨h.nd, by simp, fun a ha b hb2 z => ?_⟩
    rw [List.mem_singleton.mp hb2] at z
    exact hno (z ▸ ha), fun x hx => by
    rcases List.mem_append.mp hx with hx | hx
    · exact h.rg x hx
    · rw [List.mem_singleton.mp hx]
      exact hk⟩
  have := h2.len
  rw [List.length_append, List.length_singleton] at this
  omega
theorem topo_ex (ac : Acy E) (hE : ∀ a b, (a, b) ∈ E → 0 ≤ b ∧ b < (n : Int)) : ∃ O, Topo E n O ∧ O.length = n := by
  have go : ∀ d O, Topo E n O → O.length + d = n → ∃ O, Topo E n O ∧ O.length = n := fun d => by
    induction d with
    | zero => exact fun O h hl => ⟨O, h, by omega⟩
    | succ d ih =>
      intro O h hl
      obtain ⟨k0, hk0, hn0⟩ := lv_full h.lv (by omega)
      obtain ⟨k, hk, hn, hb⟩ := least ac hE hk0 hn0
      exact ih _ (h.snoc hk hn hb) (by rw [List.length_append, List.length_singleton]; omega)
  exact go n [] topo_nil (by simp)
end
/-! ### kinds_in_order -/
def okB (E : List (Int × Int)) (O : List Int) (k : Int) : Bool := !O.contains k && (adj E k).all O.contains
def stO (E : List (Int × Int)) (O : List Int) (k : Int) : List Int := if okB E O k = true then O ++ [k] else O
def roO (E : List (Int × Int)) (O : List Int) (n : Nat) : List Int := (List.range n).foldl (fun O k => stO E O (k : Nat)) O
theorem roO_succ (E : List (Int × Int)) (O : List Int) (n : Nat) : roO E O (n + 1) = stO E (roO E O n) (n : Nat) := by
  unfold roO
  rw [List.range_succ, List.foldl_append]
  rfl
theorem stO_topo {E : List (Int × Int)} {n : Nat} {O : List Int} {k : Int} (h : Topo E n O) (hk : 0 ≤ k ∧ k < (n : Int)) : Topo E n (stO E O k) := by
  unfold stO
  split
  · rename_i hb
    unfold okB at hb
    rw [Bool.and_eq_true, Bool.not_eq_true', List.all_eq_true] at hb
    exact h.snoc hk (fun z => by rw [List.contains_iff_mem.mpr z] at hb; exact absurd hb.1 (by decide)) fun b hE => List.contains_iff_mem.mp (hb.2 b (mem_adj.mpr hE))
  · exact h
theorem stO_sub {E : List (Int × Int)} {O : List Int} {k x : Int} (h : x ∈ O) : x ∈ stO E O k := by
  unfold stO
  split
  · exact List.mem_append_left _ h
  · exact h
theorem roO_topo {E : List (Int × Int)} {n : Nat} {O : List Int} (h : Topo E n O) : ∀ i, i ≤ n → Topo E n (roO E O i)
  | 0, _ => h
  | i + 1, hi => by
    rw [roO_succ]
    exact stO_topo (roO_topo h i (by omega)) ⟨by omega, by omega⟩
theorem roO_sub {E : List (Int × Int)} {O : List Int} {x : Int} (h : x ∈ O) : ∀ i, x ∈ roO E O i
  | 0 => h
  | i + 1 => by
    rw [roO_succ]
    exact stO_sub (roO_sub h i)
theorem roO_adds {E : List (Int × Int)} {n : Nat} {O : List Int} (ac : Acy E) (hE : ∀ a b, (a, b) ∈ E → 0 ≤ b ∧ b < (n : Int)) (h : Topo E n O) (hl : O.length < n) : O.length < (roO E O n).length := by
  obtain ⟨k0, hk0, hn0⟩ := lv_full h.lv hl
  obtain ⟨k, hk, hn, hb⟩ := least ac hE hk0 hn0
  have en : ((k.toNat : Nat) : Int) = k := by omega
  have hin : k ∈ roO E O (k.toNat + 1) := by
    rw [roO_succ, en]
    by_cases hm : k ∈ roO E O k.toNat
    · exact stO_sub hm
    · unfold stO okB
      rw [if_pos]
      · exact List.mem_append_right _ (List.mem_singleton.mpr rfl)
      · rw [Bool.and_eq_true, Bool.not_eq_true', List.all_eq_true]
        refine ⟨?_, fun b hb2 => List.contains_iff_mem.mpr (roO_sub (hb b (mem_adj.mp hb2)) _)⟩
        cases hc : (roO E O k.toNat).contains k with
        | false => rfl
        | true => exact absurd (List.contains_iff_mem.mp hc) hm
  have later : ∀ d, k ∈ roO E O (k.toNat + 1 + d) := fun d => by
    induction d with
    | zero => exact hin
    | succ d ih =>
      rw [show k.toNat + 1 + (d + 1) = (k.toNat + 1 + d) + 1 by omega, roO_succ]
      exact stO_sub ih
  have hk2 : k ∈ roO E O n := by
    have := later (n - (k.toNat + 1))
    rw [show k.toNat + 1 + (n - (k.toNat + 1)) = n by omega] at this
    exact this
  have nd : (O ++ [k]).Nodup := by
    rw [List.nodup_append]
    refine ⟨h.lv.nd, by simp, fun a ha b hb2 z => ?_⟩
    rw [List.mem_singleton.mp hb2] at z
    exact hn (z ▸ ha)
  have := sub_len nd (L := roO E O n) fun x hx => by
    rcases List.mem_append.mp hx with hx | hx
    · exact roO_sub hx n
    · rw [List.mem_singleton.mp hx]
      exact hk2
  rw [List.length_append, List.length_singleton] at this
  omega
def spKO (K : PySem.W.Frag) : Sp := fun vs H Q _ => ∃ (B : Hp) (v0 : V) (n : Nat) (E : List (Int × Int)), vs = [v0] ∧ Ex B H ∧ Dd K B v0 (adjD E n) ∧ Eg n E ∧ Acy E ∧ ∀ v' B' H' O, Step (fun _ => False) B H B' H' → Topo E n O → O.length = n → Dd K B' v' (.list (O.map .int)) → Q v' H'
theorem adjD_at {E : List (Int × Int)} {n i : Nat} (h : i < n) : atI ((List.range n).map fun k => PyData.list ((adj E (k : Nat)).map .int)) ((i : Nat) : Int) = some (.list ((adj E (i : Nat)).map .int)) := atI_nat (by rw [List.getElem?_map, List.getElem?_range h]; rfl)

abbrev s_kinds_in_order : Stmt := topS 23
abbrev N_kinds_in_order : List Str := ["steps", "order", "kind", "one"]
theorem sc_kinds_in_order : FnScope N_kinds_in_order ["steps"] (defScope s_kinds_in_order) := ⟨rfl, rfl, rfl, by decide +kernel, rfl, by decide +kernel, by decide +kernel⟩
theorem ok_kinds_in_order (F : Fun K "kinds_in_order" "kinds_in_order" s_kinds_in_order f fd) (T : TC K mg) : FnOk P w K mg base CX0 1 f fd ["steps"] (spKO K) := by
  refine F.ok sc_kinds_in_order (fun vs H Q E h => ?_) (fun cdv A outer s H vs Q E hr h => ?_)
  · obtain ⟨B, v0, n, E, rfl, _⟩ := h
    rfl
  · obtain ⟨B, v0, n, ED_, rfl, e, hv, g, ac, q⟩ := h
    refine ⟨_, (pss_cons (ps_set (i := 1) sc_kinds_in_order.nd rfl (Or.inr rfl) (pe_lst pa_nil))
      (pss_cons (ps_while PassesOwn.never (pt_cmpR op_lt (pe_callB (call_lenK K) (by rfl) T.m_len bt_len (pa_cons (pv 1) pa_nil)) (pe_callB (call_lenK K) (by rfl) T.m_len bt_len (pa_cons (pv 0) pa_nil)) (nomark _)) (pss_one (ps_for PassesOwn.never rfl (pi_range1 rfl T.m_range (pa_cons (pe_callB (call_lenK K) (by rfl) T.m_len bt_len (pa_cons (pv 0) pa_nil)) pa_nil)) (pg_name (i := 2) sc_kinds_in_order.nd rfl (Or.inl rfl)) (pss_one (ps_if (PW.pt (pw_and (pt_cmpR (op_ninK K) (pv 2) (pv 1) (by rfl)) (pw_and1 (pt_val (pe_callB (cr_allK K) (by rfl) T.m_all bt_all (pa_cons (pe_lc (own := [("one", 3)]) rfl sc_kinds_in_order.nd (pi_seqK K (pe_ix (ix_seqK K) (pv 0) (pv 2) (fun _ _ => rfl))) (blkOk_by (own := [("one", 3)]) (N := N_kinds_in_order) (sc := defScope s_kinds_in_order) (by decide +kernel)) (fun _ _ _ _ _ => pg_name (i := 3) sc_kinds_in_order.nd rfl (Or.inl rfl)) (fun _ _ _ _ _ => pts_nil) (fun _ _ _ _ _ => (pe_cmpR (op_inK K) (pv 3) (pv 1) (by rfl)))) pa_nil)))))) (pss_one (ps_expr (pe_bm PySem.F.plainAttrs_list PySem.F.slot_list_append PySem.F.type_list_append mt_append (pv 1) (pa_cons (pv 2) pa_nil)))) pss_nil)))))
      (pss_one (ps_ret (pv 1))))), ?_⟩
    have n8 := g.n8
    have hE := fun a b h => (g.rg a b h).2
    have lenV : ∀ {F : Fm} {σ : L2.St} {B1 : Hp}, σ[0]? = some (some v0) → Ex B B1 → ED F K (tCB (fun xs H Q => ∃ x n, xs = [x] ∧ LenV K x H n ∧ Q (.int (n : Nat)) H) (tCons (tVar 0) tNil)) σ B1 (.int (n : Nat)) := fun h1 h2 => ed_is (ev_cb (eds_cons (ed_var h1 (hv.up h2)) eds_nil) (rc_len rfl)) (by show PyData.int ((((List.range n).map fun k => PyData.list ((adj ED_ (k : Nat)).map .int)).length : Nat) : Int) = _; rw [List.length_map, List.length_range])
    refine wq_lst (i := 1) (ow_nil (F := Fm.pure) (Ok.any e)) fun na w1 => ?_
    refine ⟨fun m σ' H' => ∃ (o2 : Option V) (O : List Int) (B' : Hp), σ' = [some v0, some (.ref na), o2, none] ∧ Ex B B' ∧ Ow Fm.pure B H B' H' [(na, .lst (O.map V.int))] ∧ Topo ED_ n O ∧ m = n - O.length, ⟨_, none, [], B, rfl, Ex.refl B, w1, topo_nil, rfl⟩, ?_⟩
    rintro m σ' H' ⟨o2, O, B', rfl, eB, w, tp, rfl⟩
    have hll := tp.lv.len
    have lenO : ∀ {F : Fm} {σ : L2.St} {B1 : Hp}, σ[1]? = some (some (.ref na)) → Dd K B1 (.ref na) (.list (O.map .int)) → ED F K (tCB (fun xs H Q => ∃ x n, xs = [x] ∧ LenV K x H n ∧ Q (.int (n : Nat)) H) (tCons (tVar 1) tNil)) σ B1 (.int ((O.length : Nat) : Int)) := fun h1 h2 => ed_is (ev_cb (eds_cons (ed_var h1 h2) eds_nil) (rc_len rfl)) (by show PyData.int (((O.map PyData.int).length : Nat) : Int) = _; rw [List.length_map])
    have tst : ETt Fm.pure (tTest (tOp (rI0 fun i j => .bl (decide (i < j))) (tCB (fun xs H Q => ∃ x n, xs = [x] ∧ LenV K x H n ∧ Q (.int (n : Nat)) H) (tCons (tVar 1) tNil)) (tCB (fun xs H Q => ∃ x n, xs = [x] ∧ LenV K x H n ∧ Q (.int (n : Nat)) H) (tCons (tVar 0) tNil)))) [some v0, some (.ref na), o2, none] (shutL B' [(na, .lst (O.map V.int))]) (decide (((O.length : Nat) : Int) < (n : Nat))) := et_cmp (ed_op (lenO rfl (own_ints w (by omega))) (lenV rfl (eB.trans w.shut.2.1)) rd_lt)
    refine tst _ (Ex.refl _) H' w.shut.1.k _ fun B5 H5 s5 k5 => ?_
    have w5 := w.look s5 k5
    by_cases hlt : ((O.length : Nat) : Int) < (n : Nat)
    · rw [decide_eq_true hlt, if_pos rfl]
      refine ⟨_, fun σ2 H3 q => q, ?_⟩
      refine os_rng1 (K := K) (F := Fm.pure) (n := (n : Nat)) (j := 2) w5.k (eds_cons (lenV rfl eB) eds_nil) (by omega) (fun i σ' B7 H7 => (∃ o2, σ' = [some v0, some (.ref na), o2, none]) ∧ Ex B' B7 ∧ Ow Fm.pure B H B7 H7 [(na, .lst ((roO ED_ O i).map V.int))])
        (fun B7 H7 s7 k7 => ⟨⟨_, rfl⟩, s7.bb, w5.pass s7 k7⟩) (fun Bc i σ' B7 H7 ec hi e7 hj => ?_) (fun σ' B7 H7 e7 hj => ?_)
      · obtain ⟨⟨o2, rfl⟩, e67, w7⟩ := hj
        have hi' : i < n := by omega
        have tp7 := roO_topo tp i (by omega)
        have hl7 := tp7.lv.len
        have d7 := own_ints (K := K) w7 (by omega)
        have e7s := w7.shut.2.1
        have hal : (adj ED_ (i : Nat)).length ≤ 100 := Nat.le_trans (adj_len _ _) g.len
        refine wl_if w7 (b := okB ED_ (roO ED_ O i) (i : Nat)) (et_and (et_is (et_cmp (ed_op (ed_var (i := 2) rfl (.int (i : Nat))) (ed_var (i := 1) rfl d7) (rd_notin (.inl rfl) rfl (flatI _)))) (congrArg Bool.not (inD_int _ _))) fun _ => et_is (et_val (ev_cb (eds_cons (ed_lcD (K := K) (ds := (adj ED_ (i : Nat)).map .int) (fun _ => true) (fun d => .bool ((roO ED_ O i).contains (numI d))) (ev_seqL (ed_op (ed_var (i := 0) rfl (hv.up ((eB.trans e67).trans e7s))) (ed_var (i := 2) rfl (.int (i : Nat))) (rd_ixL (adjD_at hi')))) (by rw [List.length_map]; omega) (fun _ => rfl) (fun d u B8 hm e8 hu => et_yes) (fun d u B8 hm _ e8 hu => ?_)) eds_nil) (rc_all' (bs := (adj ED_ (i : Nat)).map (roO ED_ O i).contains) ?_))) ?_) (fun hb H8 w8 => ?_) (fun hb H8 w8 => ?_)
        · obtain ⟨x, _, rfl⟩ := List.mem_map.mp hm
          exact ed_is (ed_op (ed_var (i := 3) rfl hu) (ed_var (i := 1) rfl (d7.up e8)) (rd_isin (.inl rfl) rfl (flatI _))) (congrArg PyData.bool (inD_int _ _))
        · rw [List.filter_eq_self.mpr (fun _ _ => rfl), List.map_map, List.map_map]
          rfl
        · rw [List.all_map]
          rfl
        · refine ws_app w8 (i := 1) rfl (ed_var (i := 2) rfl (.int (i : Nat))) (by rw [List.length_map]; omega) fun v9 B9 H9 w9 e9 g9 => ?_
          obtain rfl := dd_int g9
          refine ⟨B9, e7.trans e9, ⟨_, rfl⟩, e67.trans e9, ?_⟩
          rw [roO_succ, show stO ED_ (roO ED_ O i) (i : Nat) = roO ED_ O i ++ [(i : Int)] from if_pos hb, List.map_append]
          exact w9
        · refine ⟨B7, e7, ⟨_, rfl⟩, e67, ?_⟩
          rw [roO_succ, show stO ED_ (roO ED_ O i) (i : Nat) = roO ED_ O i from if_neg (by rw [hb]; decide)]
          exact w8
      · obtain ⟨⟨o2, rfl⟩, e67, w7⟩ := hj
        have w7 : Ow Fm.pure B H B7 H7 [(na, .lst ((roO ED_ O n).map V.int))] := w7
        have hg := roO_adds ac hE tp (by omega)
        have hl2 := (roO_topo tp n (Nat.le_refl _)).lv.len
        exact ⟨n - (roO ED_ O n).length, by omega, _, _, B7, rfl, eB.trans e67, w7, roO_topo tp n (Nat.le_refl _), rfl⟩
    · rw [decide_eq_false hlt, if_neg (by decide)]
      obtain ⟨w6, e6, d6⟩ := w5.dropL (ds := O.map .int) (K := K) (ddAll_mkI _) (by rw [List.length_map]; omega)
      refine ws_ret w6 (ed_var (i := 1) rfl d6) fun v7 B7 H7 w7 e7 g7 => q _ B7 H7 O w7.st tp (by omega) g7

end
end K50

namespace K50
open PySem PySem.Spec PyProof.Rows L2 Evl Ex Dx StX
open PySem.PyData (strOk)
section
variable {P : Program} {w : World} {K : PySem.W.Frag} {mg : Str → Option Value} {base : Heap} {f : Addr} {fd : FuncData}


/-! ### what lengths are -/
def rchB (E : List (Int × Int)) (n : Nat) (k j : Int) : Bool := (Gm.turns E k (n + 1)).contains j
section
variable {E : List (Int × Int)} {n : Nat} {k j : Int}
theorem rch_iff (g : Eg n E) : rchB E n k j = true ↔ Gm.Rch E k j := by
  unfold rchB
  rw [List.contains_iff_mem, Gm.turns_all fun a b h => (g.rg a b h).2]
theorem rch_trans {E : List (Int × Int)} {a b c : Int} (h1 : Gm.Rch E a b) (h2 : Gm.Rch E b c) : Gm.Rch E a c := by
  induction h2 with
  | one e => exact .more h1 e
  | more _ e ih => exact .more ih e
theorem rch_in (g : Eg n E) (h : Gm.Rch E k j) : 0 ≤ j ∧ j < (n : Int) := by
  cases h with
  | one e => exact (g.rg _ _ e).2
  | more _ e => exact (g.rg _ _ e).2
theorem rch_src (g : Eg n E) (h : Gm.Rch E k j) : ∃ b, (k, b) ∈ E := by
  induction h with
  | one e => exact ⟨_, e⟩
  | more _ _ ih => exact ih
def wdB (E : List (Int × Int)) (n : Nat) (k : Int) : Bool := rchB E n k k || (List.range n).any fun j : Nat => rchB E n k (j : Int) && rchB E n (j : Int) (j : Int)
theorem wd_iff (g : Eg n E) : wdB E n k = true ↔ ∃ j, (j = k ∨ Gm.Rch E k j) ∧ Gm.Rch E j j := by
  unfold wdB
  rw [Bool.or_eq_true, List.any_eq_true, rch_iff g]
  constructor
  · rintro (h | ⟨j, _, h⟩)
    · exact ⟨k, .inl rfl, h⟩
    · rw [Bool.and_eq_true, rch_iff g, rch_iff g] at h
      exact ⟨j, .inr h.1, h.2⟩
  · rintro ⟨j, rfl | h, h2⟩
    · exact .inl h2
    · have hj := rch_in g h
      have en : ((j.toNat : Nat) : Int) = j := by omega
      refine .inr ⟨j.toNat, List.mem_range.mpr (by omega), ?_⟩
      rw [en, Bool.and_eq_true, rch_iff g, rch_iff g]
      exact ⟨h, h2⟩
theorem wd_step (g : Eg n E) (he : (k, j) ∈ E) (h : wdB E n j = true) : wdB E n k = true := by
  obtain ⟨i, hi, h2⟩ := (wd_iff g).mp h
  refine (wd_iff g).mpr ⟨i, .inr ?_, h2⟩
  rcases hi with rfl | hi
  · exact .one he
  · exact rch_trans (.one he) hi
end
section
variable {n : Nat} {rs : List PyData}
def gdL (n : Nat) (rs : List PyData) : List PyData := rs.filter (livB (liveL rs n))
abbrev lE (n : Nat) (rs : List PyData) : List (Int × Int) := lsE rs (liveL rs n)
theorem gd_rf (g : Gs n rs) : ∀ r ∈ gdL n rs, RF n r := lsE_rf g.rf _
theorem live_len (g : Gs n rs) : (liveL rs n).length ≤ 8 := Nat.le_trans (live_lv (n := n) g.rf (n + 1)).len g.n8
theorem live_lvL (g : Gs n rs) : LV n (liveL rs n) := live_lv g.rf (n + 1)
/-- a rule all of whose parts are live has a live head -/
theorem gd_head (g : Gs n rs) {r : PyData} (hr : r ∈ gdL n rs) : hdI r ∈ liveL rs n := by
  obtain ⟨hm, hl⟩ := List.mem_filter.mp hr
  obtain ⟨i, hi⟩ := List.getElem?_of_mem hm
  have st := live_stable (n := n) g.rf
  have same : ∀ j, (rs.take j).foldl stepP (liveL rs n) = liveL rs n := fun j => by
    obtain ⟨S, e⟩ := fold_pre (rs.take j) (liveL rs n)
    obtain ⟨S2, e2⟩ := fold_pre (rs.drop j) ((rs.take j).foldl stepP (liveL rs n))
    rw [← List.foldl_append, List.take_append_drop] at e2
    have e3 : passL rs (liveL rs n) = ((liveL rs n ++ S) ++ S2) := by rw [← e]; exact e2
    rw [st] at e3
    have := congrArg List.length e3
    rw [List.length_append, List.length_append] at this
    rw [e, List.eq_nil_of_length_eq_zero (show S.length = 0 by omega), List.append_nil]
  have h1 := foldT hi (liveL rs n)
  rw [same, same] at h1
  apply Classical.byContradiction
  intro hno
  have hc : (liveL rs n).contains (hdI r) = false := by
    cases h : (liveL rs n).contains (hdI r) with
    | false => rfl
    | true => exact absurd (List.contains_iff_mem.mp h) hno
  rw [step_y (by rw [hc, hl]; rfl)] at h1
  have := congrArg List.length h1
  rw [List.length_append, List.length_singleton] at this
  omega
theorem liv_mono {L L' : List Int} {r : PyData} (h : ∀ x ∈ L, x ∈ L') (hl : livB L r = true) : livB L' r = true := by
  unfold livB at hl ⊢
  rw [List.all_eq_true] at hl ⊢
  exact fun x hx => List.contains_iff_mem.mpr (h x (List.contains_iff_mem.mp (hl x hx)))
theorem live_sub (g : Gs n rs) : ∀ t, ∀ x ∈ liveN rs t, x ∈ liveL rs n := fun t x hx => by
  have mono : ∀ s d, ∀ x ∈ liveN rs s, x ∈ liveN rs (s + d) := fun s d => by
    induction d with
    | zero => exact fun x hx => hx
    | succ d ih =>
      intro x hx
      obtain ⟨S, e⟩ := fold_pre rs (liveN rs (s + d))
      show x ∈ rs.foldl stepP (liveN rs (s + d))
      rw [e]
      exact List.mem_append_left _ (ih x hx)
  have h := mono t (n + 1) x hx
  have e := live_later (s := n + 1) (live_stable (n := n) g.rf) t
  rw [Nat.add_comm] at h
  rw [e] at h
  exact h
/-- a live kind is the head of a rule all of whose parts are live -/
theorem live_rule (g : Gs n rs) {k : Int} (hk : k ∈ liveL rs n) : ∃ r ∈ gdL n rs, hdI r = k := by
  have fold : ∀ (l : List PyData) (L : List Int), (∀ r ∈ l, r ∈ rs) → (∀ x ∈ l.foldl stepP L, x ∈ liveL rs n) → ∀ k ∈ l.foldl stepP L, k ∈ L ∨ ∃ r ∈ gdL n rs, hdI r = k := fun l => by
    induction l with
    | nil => exact fun L _ _ k hk => .inl hk
    | cons r l ih =>
      intro L hm hs k hk
      rcases ih (stepP L r) (fun x hx => hm x (List.mem_cons_of_mem _ hx)) hs k hk with h | h
      · by_cases hc : (!L.contains (hdI r) && livB L r) = true
        · rw [step_y hc] at h
          rcases List.mem_append.mp h with h | h
          · exact .inl h
          · refine .inr ⟨r, List.mem_filter.mpr ⟨hm r List.mem_cons_self, ?_⟩, (List.mem_singleton.mp h).symm⟩
            refine liv_mono (L := L) (fun x hx => hs x ?_) (by rw [Bool.and_eq_true] at hc; exact hc.2)
            obtain ⟨S, e⟩ := fold_pre l (stepP L r)
            show x ∈ l.foldl stepP (stepP L r)
            rw [e, step_y hc]
            exact List.mem_append_left _ (List.mem_append_left _ hx)
        · rw [step_n (by simpa using hc)] at h
          exact .inl h
      · exact .inr h
  have all : ∀ t, ∀ k ∈ liveN rs t, ∃ r ∈ gdL n rs, hdI r = k := fun t => by
    induction t with
    | zero => exact fun k hk => nomatch hk
    | succ t ih =>
      intro k hk
      rcases fold rs (liveN rs t) (fun r h => h) (live_sub g (t + 1)) k hk with h | h
      · exact ih k h
      · exact h
  exact all (n + 1) k hk
/-- words of a rule -/
def szZ (x : Int → Int) (r : PyData) : Int := if (prtL r).isEmpty = true then 1 else ((prtL r).map x).sum
theorem sz_congr {x y : Int → Int} {r : PyData} (h : ∀ p ∈ prtL r, x p = y p) : szZ x r = szZ y r := by
  unfold szZ
  rw [List.map_congr_left h]
/-- live, and no endless kind behind it -/
def bnd (n : Nat) (rs : List PyData) (k : Int) : Prop := (0 ≤ k ∧ k < (n : Int)) ∧ k ∈ liveL rs n ∧ wdB (lE n rs) n k = false
structure LenS (n : Nat) (rs : List PyData) (x : Int → Int) : Prop where
  dead : ∀ k, (0 ≤ k ∧ k < (n : Int)) → k ∉ liveL rs n → x k = -1
  wide : ∀ k, (0 ≤ k ∧ k < (n : Int)) → k ∈ liveL rs n → wdB (lE n rs) n k = true → x k = -2
  top : ∀ k, bnd n rs k → (∃ r ∈ gdL n rs, hdI r = k ∧ szZ x r = x k) ∧ ∀ r ∈ gdL n rs, hdI r = k → szZ x r ≤ x k
theorem gd_edge {r : PyData} (hr : r ∈ gdL n rs) {p : Int} (hp : p ∈ prtL r) : (hdI r, p) ∈ lE n rs := stE_mem.mpr ⟨r, hr, rfl, hp⟩
theorem bnd_part (g : Gs n rs) {r : PyData} (hr : r ∈ gdL n rs) (hb : bnd n rs (hdI r)) {p : Int} (hp : p ∈ prtL r) : bnd n rs p := by
  refine ⟨(gd_rf g r hr).parts.2 p hp, ?_, ?_⟩
  · have := (List.mem_filter.mp hr).2
    unfold livB at this
    exact List.contains_iff_mem.mp (List.all_eq_true.mp this p hp)
  · cases h : wdB (lE n rs) n p with
    | false => rfl
    | true =>
      have := wd_step (g.eg _) (gd_edge hr hp) h
      rw [hb.2.2] at this
      cases this
/-- the steps from kinds that are bounded -/
def bE (n : Nat) (rs : List PyData) : List (Int × Int) := (lE n rs).filter fun p => (liveL rs n).contains p.1 && !wdB (lE n rs) n p.1
theorem bE_mem {a b : Int} : (a, b) ∈ bE n rs ↔ (a, b) ∈ lE n rs ∧ a ∈ liveL rs n ∧ wdB (lE n rs) n a = false := by
  unfold bE
  rw [List.mem_filter, Bool.and_eq_true, List.contains_iff_mem, Bool.not_eq_true']
theorem bE_eg (g : Gs n rs) : Eg n (bE n rs) := ⟨fun a b h => (g.eg _).rg a b (bE_mem.mp h).1, g.n8, g.n1, Nat.le_trans (List.length_filter_le _ _) (g.eg _).len⟩
theorem bE_acy (g : Gs n rs) : Acy (bE n rs) := fun k h => by
  obtain ⟨b, hb⟩ := rch_src (bE_eg g) h
  have h2 := (bE_mem.mp hb).2.2
  have h3 : Gm.Rch (lE n rs) k k := Gm.Rch.mono (fun q hq => (List.mem_filter.mp hq).1) h
  rw [(wd_iff (g.eg _)).mpr ⟨k, .inl rfl, h3⟩] at h2
  cases h2
theorem bnd_edge (g : Gs n rs) {r : PyData} (hr : r ∈ gdL n rs) (hb : bnd n rs (hdI r)) {p : Int} (hp : p ∈ prtL r) : (hdI r, p) ∈ bE n rs := bE_mem.mpr ⟨gd_edge hr hp, hb.2.1, hb.2.2⟩
theorem LenS.uniq (g : Gs n rs) {x y : Int → Int} (hx : LenS n rs x) (hy : LenS n rs y) : ∀ k, (0 ≤ k ∧ k < (n : Int)) → x k = y k := by
  obtain ⟨O, tp, hO⟩ := topo_ex (bE_acy g) fun a b h => ((bE_eg g).rg a b h).2
  have ot : ∀ k, (0 ≤ k ∧ k < (n : Int)) → ¬ bnd n rs k → x k = y k := fun k hk hnb => by
    by_cases hl : k ∈ liveL rs n
    · have hw : wdB (lE n rs) n k = true := by
        cases h : wdB (lE n rs) n k with
        | true => rfl
        | false => exact absurd ⟨hk, hl, h⟩ hnb
      rw [hx.wide k hk hl hw, hy.wide k hk hl hw]
    · rw [hx.dead k hk hl, hy.dead k hk hl]
  have go : ∀ i, ∀ k ∈ O.take i, x k = y k := fun i => by
    induction i with
    | zero => exact fun k hk => by rw [List.take_zero] at hk; cases hk
    | succ i ih =>
      intro k hk
      by_cases hi : i < O.length
      · rw [List.take_succ_eq_append_getElem hi] at hk
        rcases List.mem_append.mp hk with hk | hk
        · exact ih k hk
        · have hki : O[i]? = some k := by rw [List.getElem?_eq_getElem hi, List.mem_singleton.mp hk]
          have hkr := tp.lv.rg k (List.mem_of_getElem? hki)
          by_cases hb : bnd n rs k
          · have same : ∀ r ∈ gdL n rs, hdI r = k → szZ x r = szZ y r := fun r hr he => sz_congr fun p hp => ih p (tp.ord i k hki p (he ▸ bnd_edge g hr (he ▸ hb) hp))
            obtain ⟨⟨r, hr, he, h1⟩, h2⟩ := hx.top k hb
            obtain ⟨⟨r', hr', he', h1'⟩, h2'⟩ := hy.top k hb
            have a1 := h2' r hr he
            have a2 := h2 r' hr' he'
            rw [← same r hr he] at a1
            rw [same r' hr' he'] at a2
            omega
          · exact ot k hkr hb
      · rw [List.take_of_length_le (by omega)] at hk
        exact ih k (by rw [List.take_of_length_le (by omega)]; exact hk)
  exact fun k hk => go n k (by rw [← hO, List.take_length]; exact lv_all tp.lv (by omega) hk)
theorem max_ex : ∀ {ns : List Int}, ns ≠ [] → ∃ M ∈ ns, ∀ a ∈ ns, a ≤ M
  | [], h => absurd rfl h
  | [a], _ => ⟨a, List.mem_singleton.mpr rfl, fun b hb => by rw [List.mem_singleton.mp hb]; exact Int.le_refl a⟩
  | a :: b :: l, _ => by
    obtain ⟨M, hM, h⟩ := max_ex (ns := b :: l) fun z => nomatch z
    by_cases hc : a ≤ M
    · exact ⟨M, List.mem_cons_of_mem _ hM, fun y hy => by
        rcases List.mem_cons.mp hy with rfl | hy
        · exact hc
        · exact h y hy⟩
    · exact ⟨a, List.mem_cons_self, fun y hy => by
        rcases List.mem_cons.mp hy with rfl | hy
        · exact Int.le_refl _
        · have := h y hy
          omega⟩
end
/-! ### words_by -/
def spWB (K : PySem.W.Frag) : Sp := fun vs H Q _ => ∃ (B : Hp) (vr vd : V) (r : PyData) (n : Nat) (m : IMp) (x : Int → Int), vs = [vr, vd] ∧ Ex B H ∧ Dd K B vr r ∧ RF n r ∧ DicI m vd B ∧ (∀ p ∈ prtL r, m p = some (x p)) ∧ ∀ B' H', Step (fun _ => False) B H B' H' → Q (.int (szZ x r)) H'

abbrev s_words_by : Stmt := topS 76
abbrev N_words_by : List Str := ["rule", "told", "part"]
theorem sc_words_by : FnScope N_words_by ["rule", "told"] (defScope s_words_by) := ⟨rfl, rfl, rfl, by decide +kernel, rfl, by decide +kernel, by decide +kernel⟩
theorem ok_words_by (F : Fun K "words_by" "words_by" s_words_by f fd) (T : TC K mg) (m_sum : mg "sum" = none) (C_part_kinds : Callee P w K mg base "part_kinds" 1 ["rule"] (spF K preRF fPts)) : FnOk P w K mg base CX0 2 f fd ["rule", "told"] (spWB K) := by
  refine F.ok sc_words_by (fun vs H Q E h => ?_) (fun cdv A outer s H vs Q E hr h => ?_)
  · obtain ⟨B, vr, vd, r, n, m, x, rfl, _⟩ := h
    rfl
  · obtain ⟨B, vr, vd, r, n, m, x, rfl, e, hv, hr0, hd, hm, q⟩ := h
    have hu64 : (A.deeper (envOfC "words_by" (defScope s_words_by) s.heap.objs.size f cdv)).units + 64 < cLine := hr.units
    have hu1 : (A.deeper (envOfC "words_by" (defScope s_words_by) s.heap.objs.size f cdv)).units + 1 < cLine := by omega
    obtain ⟨WW, gW, hW⟩ := T.w_WORD.ex
    refine ⟨_, (pss_cons (ps_if (pt_cmpR (op_inK K) (pe_ix (ix_seqK K) (pv 0) pe_int (fun _ _ => rfl)) (pe_glob (v := .ref WW) rfl gW rfl) (by rfl)) (pss_one (ps_ret pe_int)) pss_nil)
      (pss_one (ps_ret (pe_callB (cr_sumK K rfl) (by rfl) m_sum bt_sum (pa_cons (pe_lc (own := [("part", 2)]) rfl sc_words_by.nd (pi_seqK K (pe_callC C_part_kinds (hr.mono (by decide)) rfl pass0 (pa_cons (pv 0) pa_nil))) (blkOk_by (own := [("part", 2)]) (N := N_words_by) (sc := defScope s_words_by) (by decide +kernel)) (fun _ _ _ _ _ => pg_name (i := 2) sc_words_by.nd rfl (Or.inl rfl)) (fun _ _ _ _ _ => pts_nil) (fun _ _ _ _ _ => (pe_dget hu1 (pv 1) (pv 2) (fun _ _ => rfl)))) pa_nil))))), ?_⟩
    have a : At Fm.pure B H B H := At.start (Ok.any e)
    obtain ⟨y, how, p, ps, erd, _, hc⟩ := id hr0
    have hv' : Dd K B vr (.tuple (.int y :: .str how :: p :: ps)) := erd ▸ hv
    have i1 : ED Fm.pure K (tOp (rIx K) (tVar 0) (tC (.int 1))) [some vr, some vd, none] B (.str how) := ed_op (ed_var rfl hv') ed_int (rd_ixT at3_1)
    have hpl := hr0.parts.1
    rcases hc with ⟨hw, _, _, hp⟩ | ⟨hw, hp, hl1, _⟩
    · refine qv_when (b := true) a (et_is (et_cmp (inST i1 (ed_v (hW B)))) hw) (fun _ B1 H1 e1 a1 => ?_) (fun h => nomatch h)
      refine sv_ret (P := DD K (.int 1)) a1 ed_int fun v1 B2 H2 e2 a2 h2 => ?_
      obtain rfl := dd_int h2
      have := q B2 H2 a2.st
      unfold szZ at this
      rw [hp] at this
      exact this
    · refine qv_when (b := false) a (et_is (et_cmp (inST i1 (ed_v (hW B)))) hw) (fun h => nomatch h) (fun _ B1 H1 e1 a1 => ?_)
      refine sv_ret (P := DD K (.int ((prtL r).map x).sum)) a1 (ev_cb (eds_cons (ed_is (ed_lcD (K := K) (ds := (prtL r).map .int) (fun _ => true) (fun d => .int (x (numI d))) (ev_seqT (ed_F (eds_cons (ed_var (i := 0) rfl (hv.up e1)) eds_nil) ⟨r, n, rfl, hr0⟩ rfl)) (by rw [List.length_map]; omega) (fun _ => rfl) (fun d u B8 hm8 e8 hu => et_yes) (fun d u B8 hm8 _ e8 hu => ?_)) (by
        rw [List.filter_eq_self.mpr (fun _ _ => rfl), List.map_map, show (fun d => PyData.int (x (numI d))) ∘ PyData.int = PyData.int ∘ x from rfl, ← List.map_map])) eds_nil) (rc_sum (ns := (prtL r).map x))) fun v1 B2 H2 e2 a2 h2 => ?_
      · obtain ⟨z, hz, rfl⟩ := List.mem_map.mp hm8
        exact ev_iget (m := m) (Dx.ev_var (P := DicI m) (i := 1) rfl upc_dicI (upc_dicI _ _ _ (e1.trans e8) hd)) (ed_var (i := 2) rfl hu) (hm z hz)
      · obtain rfl := dd_int h2
        have := q B2 H2 a2.st
        unfold szZ at this
        rw [if_neg] at this
        · exact this
        · intro h
          rw [List.isEmpty_iff] at h
          rw [h] at hl1
          exact absurd hl1 (by decide)

end
end K50

namespace K50
open PySem PySem.Spec PyProof.Rows L2 Evl Ex Dx StX
open PySem.PyData (strOk)
section
variable {P : Program} {w : World} {K : PySem.W.Frag} {mg : Str → Option Value} {base : Heap} {f : Addr} {fd : FuncData}


theorem rc_any {F : Fm} {B : Hp} {bs : List Bool} : RDc F K (rAny K) B [.list (bs.map .bool)] (.bool (bs.any id)) := rc_of fun H u hu => by
  obtain ⟨a, xs, rfl, h1, l1, g1⟩ := dd_lst hu
  exact ⟨.bl (bs.any id), fun _ => .bl _, fun Q q => ⟨a, bs, rfl, by rw [← bls_dv g1]; exact sq_of h1, q⟩⟩
theorem ed_anyX {F : Fm} {σ : L2.St} {B : Hp} {te : TE} {b : Bool} (h : EV F te σ B (fun v B => ∃ bs : List Bool, bs.any id = b ∧ Dd K B v (.list (bs.map .bool)))) : ED F K (tCB (rAny K) (tCons te tNil)) σ B (.bool b) := fun B1 e1 H j Q q =>
  h B1 e1 H j _ fun v B2 H2 s2 j2 ⟨bs, hb, g⟩ => rc_any (F := F) B2 (Ex.refl B2) H2 [v] j2 (.cons g .nil) Q fun w B3 H3 s3 j3 gw => q w B3 H3 (s2.trans s3) j3 (hb ▸ gw)
/-- a comprehension over what is known up to a choice -/
theorem ev_lcX {F : Fm} {σ : L2.St} {B : Hp} {tl te : TE} {tt : TT} {j : Nat} {vsN : List Nat} {R : List PyData → Prop} {Z : PV} (h : EV F tl σ B (fun v B => ∃ ds, R ds ∧ Dd K B v (.tuple ds)))
    (hq : ∀ ds v B1, R ds → Ex B B1 → Dd K B1 v (.tuple ds) → EV F (tLc (iSeq K (tC v)) (gName j) tt te vsN) σ B1 Z) : EV F (tLc (iSeq K tl) (gName j) tt te vsN) σ B Z := fun B1 e1 H1 j1 Q q =>
  h B1 e1 H1 j1 _ fun v B2 H2 s2 j2 ⟨ds, r, g⟩ => hq ds v B2 r (e1.trans s2.bb) g B2 (Ex.refl B2) H2 j2 Q fun w B3 H3 s3 j3 z => q w B3 H3 (s2.trans s3) j3 z
theorem ed_LS {F : Fm} {σ : L2.St} {B : Hp} {CP : Addr} {i j : Nat} {vp vl : V} {n : Nat} {rs : List PyData} {L : List Int} (hi : σ[i]? = some (some vp)) (hj : σ[j]? = some (some vl)) (hp : InsP K CP (.int (n : Nat)) (.tuple rs) vp B) (g : Gs n rs) (hl : Dd K B vl (.list (L.map .int))) (hL : L.length ≤ 100) : ED F K (tCall (spLS K CP) [] E0 (tCons (tVar i) (tCons (tVar j) tNil))) σ B (adjD (lsE rs L) n) := fun B1 e1 H1 j1 Q1 q1 =>
  ⟨vp, hi, vl, hj, B1, vp, vl, n, rs, L, rfl, j1.e, upc_ins _ _ _ e1 hp, g, hl.up e1, hL, fun v' B' H' s h => q1 v' B' H' s.pure (j1.pure s) h⟩
theorem ed_LR {F : Fm} {σ : L2.St} {B : Hp} {CP : Addr} {i j : Nat} {vp vl : V} {n : Nat} {rs : List PyData} {L : List Int} (hi : σ[i]? = some (some vp)) (hj : σ[j]? = some (some vl)) (hp : InsP K CP (.int (n : Nat)) (.tuple rs) vp B) (g : Gs n rs) (hl : Dd K B vl (.list (L.map .int))) (hL : L.length ≤ 100) : ED F K (tCall (spLR K CP) [] E0 (tCons (tVar i) (tCons (tVar j) tNil))) σ B (.list (rs.filter (livB L))) := fun B1 e1 H1 j1 Q1 q1 =>
  ⟨vp, hi, vl, hj, B1, vp, vl, n, rs, L, rfl, j1.e, upc_ins _ _ _ e1 hp, g, hl.up e1, hL, fun v' B' H' s h => q1 v' B' H' s.pure (j1.pure s) h⟩
theorem kb_has {E : List (Int × Int)} {n : Nat} {k j : Int} {S : List Int} (g : Eg n E) (h : KBs E k S) : S.contains j = rchB E n k j := by
  rw [Bool.eq_iff_iff, List.contains_iff_mem, h.m, rch_iff g]
/-- j in kinds_behind(steps, k) -/
theorem ed_inKB {F : Fm} {σ : L2.St} {B : Hp} {i : Nat} {te tj : TE} {v0 : V} {n k : Nat} {j : Int} {E : List (Int × Int)} (hi : σ[i]? = some (some v0)) (hv : Dd K B v0 (adjD E n)) (hk : ED F K te σ B (.int (k : Nat))) (hj : ED F K tj σ B (.int j)) (g : Eg n E) (hkn : k < n) : ED F K (tOp (rIn K false) tj (tCall (spKB K) [] E0 (tCons (tVar i) (tCons te tNil)))) σ B (.bool (rchB E n (k : Nat) j)) :=
  ev_op (P := DD K (.int j)) hj (ev_kb hi hv hk g hkn) upc_dd fun B3 e3 H3 u v j3 hu ⟨S, hS, hd⟩ Q3 q3 => rd_isin (F := F) (K := K) (B := B3) (x := .int j) (y := .list (S.map .int)) (.inl rfl) rfl (flatI _) B3 (Ex.refl B3) H3 u v j3 hu hd Q3 fun w B' H' s jj gw => q3 w B' H' s jj (by
    rw [inD_int, kb_has g hS] at gw
    exact gw)
/-- (k, *kinds_behind(steps, k)) -/
theorem ev_kbT {F : Fm} {σ : L2.St} {B : Hp} {i : Nat} {te tk : TE} {v0 : V} {n k : Nat} {E : List (Int × Int)} (hi : σ[i]? = some (some v0)) (hv : Dd K B v0 (adjD E n)) (hk : ED F K tk σ B (.int (k : Nat))) (hk2 : ED F K te σ B (.int (k : Nat))) (g : Eg n E) (hkn : k < n) : EV F (tTup (tCons tk (tStar K (tCall (spKB K) [] E0 (tCons (tVar i) (tCons te tNil))) tNil))) σ B (fun v B => ∃ ds, (∃ S, KBs E (k : Nat) S ∧ ds = ((((k : Nat) : Int) :: S).map PyData.int)) ∧ Dd K B v (.tuple ds)) := by
  have tl : EVs F (tStar K (tCall (spKB K) [] E0 (tCons (tVar i) (tCons te tNil))) tNil) σ B (fun vs B => ∃ ds, (∃ S, KBs E (k : Nat) S ∧ ds = S.map .int) ∧ DdAll K B vs (ds ++ [])) := evs_starL (EV.imp (ev_kb hi hv hk2 g hkn) fun v _ _ ⟨S, h, d⟩ => ⟨_, ⟨S, h, rfl⟩, d⟩) fun _ _ => eds_nil
  have tc : EVs F (tCons tk (tStar K (tCall (spKB K) [] E0 (tCons (tVar i) (tCons te tNil))) tNil)) σ B (fun vs B => ∃ S, KBs E (k : Nat) S ∧ DdAll K B vs ((((k : Nat) : Int) :: S).map .int)) := fun B1 e1 H1 j1 Q1 q1 =>
    hk B1 e1 H1 j1 _ fun v2 B2 H2 s2 j2 g2 => tl B2 (e1.trans s2.bb) H2 j2 _ fun us B3 H3 s3 j3 ⟨ds, ⟨S, hS, eds⟩, gs⟩ => q1 _ B3 H3 (s2.trans s3) j3 ⟨S, hS, .cons (Dd.up g2 s3.bb) (by
      rw [eds, List.append_nil] at gs
      exact gs)⟩
  have lz : ∀ (vs : List V) (B1 : Hp) (S : List Int), KBs E (k : Nat) S → DdAll K B1 vs ((((k : Nat) : Int) :: S).map .int) → vs.length ≤ sizeLine := fun vs B1 S hS g => by
    have := hS.len
    rw [g.len, List.length_map, sizeLine_eq]
    show S.length + 1 ≤ _
    omega
  exact tc.newT (fun vs B1 _ ⟨S, hS, g⟩ => lz vs B1 S hS g) fun vs p B1 _ ⟨S, hS, g⟩ hp => ⟨_, ⟨S, hS, rfl⟩, .tup (ta_of upd_same) (lz vs B1 S hS g) (g.up (Ex.new hp))⟩
def told0 (n : Nat) (rs : List PyData) (k : Int) : Option Int := if (liveL rs n).contains k = true then (if wdB (lE n rs) n k = true then some (-2) else none) else some (-1)
def toldN (n : Nat) (rs : List PyData) (i : Nat) : IMp := fun k => if 0 ≤ k ∧ k < (i : Int) then told0 n rs k else none
theorem toldN_zero (n : Nat) (rs : List PyData) : toldN n rs 0 = fun _ => none := by
  funext k
  unfold toldN
  rw [if_neg (by omega)]
theorem toldN_some {n : Nat} {rs : List PyData} {i : Nat} {v : Int} (h : told0 n rs (i : Nat) = some v) : iput (toldN n rs i) (i : Nat) v = toldN n rs (i + 1) := by
  funext k
  unfold iput toldN
  by_cases e : k = (i : Int)
  · subst e
    rw [if_pos rfl, if_pos (by omega), h]
  · rw [if_neg e]
    by_cases h2 : 0 ≤ k ∧ k < (i : Int)
    · rw [if_pos h2, if_pos (by omega)]
    · rw [if_neg h2, if_neg (by omega)]
theorem toldN_none {n : Nat} {rs : List PyData} {i : Nat} (h : told0 n rs (i : Nat) = none) : toldN n rs i = toldN n rs (i + 1) := by
  funext k
  unfold toldN
  by_cases e : k = (i : Int)
  · subst e
    rw [if_neg (by omega), if_pos (by omega), h]
  · by_cases h2 : 0 ≤ k ∧ k < (i : Int)
    · rw [if_pos h2, if_pos (by omega)]
    · rw [if_neg h2, if_neg (by omega)]
theorem told0_bnd {n : Nat} {rs : List PyData} {k : Int} (hk : 0 ≤ k ∧ k < (n : Int)) : told0 n rs k = none ↔ bnd n rs k := by
  unfold told0 bnd
  constructor
  · intro h
    split at h
    · rename_i hc
      split at h
      · cases h
      · rename_i hw
        exact ⟨hk, List.contains_iff_mem.mp hc, by simpa using hw⟩
    · cases h
  · rintro ⟨_, hl, hw⟩
    rw [if_pos (List.contains_iff_mem.mpr hl), if_neg (by rw [hw]; decide)]
theorem any_wd {E : List (Int × Int)} {n k : Nat} {S : List Int} (g : Eg n E) (h : KBs E (k : Nat) S) (hk : k < n) : (((((k : Nat) : Int) :: S).map fun j => (((List.range n).filter fun i : Nat => rchB E n (i : Int) (i : Int)).map fun i : Nat => (i : Int)).contains j)).any id = wdB E n (k : Nat) := by
  have mem : ∀ j : Int, (((List.range n).filter fun i : Nat => rchB E n (i : Int) (i : Int)).map fun i : Nat => (i : Int)).contains j = true ↔ Gm.Rch E j j := fun j => by
    rw [List.contains_iff_mem, List.mem_map]
    constructor
    · rintro ⟨i, hi, rfl⟩
      exact (rch_iff g).mp (List.mem_filter.mp hi).2
    · intro hr
      have := rch_in g hr
      have en : ((j.toNat : Nat) : Int) = j := by omega
      exact ⟨j.toNat, List.mem_filter.mpr ⟨List.mem_range.mpr (by omega), by rw [en]; exact (rch_iff g).mpr hr⟩, en⟩
  rw [Bool.eq_iff_iff, List.any_eq_true, wd_iff g]
  constructor
  · rintro ⟨b, hb, hb2⟩
    obtain ⟨j, hj, rfl⟩ := List.mem_map.mp hb
    refine ⟨j, ?_, (mem j).mp hb2⟩
    rcases List.mem_cons.mp hj with rfl | hj
    · exact .inl rfl
    · exact .inr ((h.m j).mp hj)
  · rintro ⟨j, hj, h2⟩
    refine ⟨_, List.mem_map.mpr ⟨j, ?_, rfl⟩, (mem j).mpr h2⟩
    rcases hj with rfl | hj
    · exact List.mem_cons_self
    · exact List.mem_cons_of_mem _ ((h.m j).mpr hj)
theorem adj_bE {n : Nat} {rs : List PyData} (k : Int) : adj (bE n rs) k = if (liveL rs n).contains k = true ∧ wdB (lE n rs) n k = false then adj (lE n rs) k else [] := by
  unfold adj bE
  rw [List.filter_filter]
  by_cases h : (liveL rs n).contains k = true ∧ wdB (lE n rs) n k = false
  · rw [if_pos h]
    congr 1
    apply List.filter_congr
    intro p _
    by_cases e : p.1 = k
    · rw [e, h.1, h.2]
      simp
    · rw [beq_eq_false_iff_ne.mpr e, Bool.false_and]
  · rw [if_neg h]
    rw [List.filter_eq_nil_iff.mpr]
    · rfl
    · intro p _ hp
      rw [Bool.and_eq_true, Bool.and_eq_true, beq_iff_eq, Bool.not_eq_true'] at hp
      exact h (hp.1 ▸ hp.2)
theorem told0_adj {n : Nat} {rs : List PyData} (k : Int) : adj (bE n rs) k = if (told0 n rs k).isSome = true then [] else adj (lE n rs) k := by
  rw [adj_bE]
  unfold told0
  by_cases h1 : (liveL rs n).contains k = true
  · rw [if_pos h1]
    by_cases h2 : wdB (lE n rs) n k = true
    · rw [if_pos h2, if_neg (fun z => by rw [z.2] at h2; cases h2), if_pos (show (some (-2 : Int)).isSome = true from rfl)]
    · rw [if_neg h2, if_pos ⟨h1, by simpa using h2⟩, if_neg (by decide)]
  · rw [if_neg h1, if_neg (fun z => h1 z.1), if_pos (show (some (-1 : Int)).isSome = true from rfl)]
structure TS (n : Nat) (rs : List PyData) (O : List Int) (i : Nat) (m : IMp) (x : Int → Int) : Prop where
  has : ∀ k, (0 ≤ k ∧ k < (n : Int)) → (¬ bnd n rs k ∨ k ∈ O.take i) → m k = some (x k)
  no : ∀ k, bnd n rs k → k ∉ O.take i → m k = none
  old : ∀ k, (0 ≤ k ∧ k < (n : Int)) → ∀ v, told0 n rs k = some v → x k = v
  top : ∀ k ∈ O.take i, bnd n rs k → (∃ r ∈ gdL n rs, hdI r = k ∧ szZ x r = x k) ∧ ∀ r ∈ gdL n rs, hdI r = k → szZ x r ≤ x k
section
variable {n : Nat} {rs : List PyData} {O : List Int} {i : Nat} {m : IMp} {x : Int → Int} {k : Int}
theorem ts_start : TS n rs O 0 (toldN n rs n) (fun k => (told0 n rs k).getD 0) := by
  refine ⟨fun k hk h => ?_, fun k hb _ => ?_, fun k hk v h => by rw [h]; rfl, fun k hk => by rw [List.take_zero] at hk; cases hk⟩
  · rcases h with h | h
    · unfold toldN
      rw [if_pos hk]
      cases ht : told0 n rs k with
      | none => exact absurd ((told0_bnd hk).mp ht) h
      | some v => rfl
    · rw [List.take_zero] at h
      cases h
  · unfold toldN
    rw [if_pos hb.1]
    exact (told0_bnd hb.1).mpr hb
theorem ts_mem (h : O[i]? = some k) : k ∈ O.take (i + 1) ∧ ∀ j, j ∈ O.take (i + 1) ↔ j ∈ O.take i ∨ j = k := by
  have e := take_snoc h
  refine ⟨by rw [e]; exact List.mem_append_right _ (List.mem_singleton.mpr rfl), fun j => ?_⟩
  rw [e, List.mem_append, List.mem_singleton]
theorem ts_fresh (hO : O.Nodup) (h : O[i]? = some k) : k ∉ O.take i := fun hm => by
  obtain ⟨j, hj⟩ := List.getElem?_of_mem hm
  have hlt : j < i := by
    have := (List.getElem?_eq_some_iff.mp hj).1
    rw [List.length_take] at this
    omega
  rw [List.getElem?_take_of_lt hlt] at hj
  have hi := (List.getElem?_eq_some_iff.mp h).1
  have := (List.getElem?_inj (by omega) hO).mp (hj.trans h.symm)
  omega
theorem TS.skip (h : TS n rs O i m x) (hk : O[i]? = some k) (hr : 0 ≤ k ∧ k < (n : Int)) (hb : ¬ bnd n rs k) : TS n rs O (i + 1) m x := by
  obtain ⟨_, mm⟩ := ts_mem hk
  refine ⟨fun j hj h2 => ?_, fun j hbj h2 => h.no j hbj fun z => h2 ((mm j).mpr (.inl z)), h.old, fun j hj hbj => ?_⟩
  · rcases h2 with h2 | h2
    · exact h.has j hj (.inl h2)
    · rcases (mm j).mp h2 with h3 | rfl
      · exact h.has j hj (.inr h3)
      · exact h.has j hj (.inl hb)
  · rcases (mm j).mp hj with h3 | rfl
    · exact h.top j h3 hbj
    · exact absurd hbj hb
theorem TS.parts (g : Gs n rs) (tp : Topo (bE n rs) n O) (h : TS n rs O i m x) (hk : O[i]? = some k) (hb : bnd n rs k) {r : PyData} (hr : r ∈ gdL n rs) (he : hdI r = k) : ∀ p ∈ prtL r, p ∈ O.take i ∧ m p = some (x p) := fun p hp => by
  have h1 := tp.ord i k hk p (he ▸ bnd_edge g hr (he ▸ hb) hp)
  exact ⟨h1, h.has p ((gd_rf g r hr).parts.2 p hp) (.inr h1)⟩
theorem TS.put (g : Gs n rs) (tp : Topo (bE n rs) n O) (h : TS n rs O i m x) (hk : O[i]? = some k) (hb : bnd n rs k) {v : Int} (hv : ∃ r ∈ gdL n rs, hdI r = k ∧ szZ x r = v) (hm : ∀ r ∈ gdL n rs, hdI r = k → szZ x r ≤ v) : TS n rs O (i + 1) (iput m k v) (fun j => if j = k then v else x j) := by
  obtain ⟨mk, mm⟩ := ts_mem hk
  have fr := ts_fresh tp.lv.nd hk
  have same : ∀ j, j ∈ O.take i ∨ j = k → bnd n rs j → ∀ r ∈ gdL n rs, hdI r = j → szZ (fun j => if j = k then v else x j) r = szZ x r := fun j hj hbj r hr he => sz_congr fun p hp => by
    have hp2 : p ∈ O.take i := by
      rcases hj with hj | rfl
      · obtain ⟨a, ha⟩ := List.getElem?_of_mem hj
        have hlt : a < i := by
          have := (List.getElem?_eq_some_iff.mp ha).1
          rw [List.length_take] at this
          omega
        rw [List.getElem?_take_of_lt hlt] at ha
        have h1 := tp.ord a j ha p (he ▸ bnd_edge g hr (he ▸ hbj) hp)
        have : O.take a = (O.take i).take a := by rw [List.take_take, Nat.min_eq_left (by omega)]
        rw [this] at h1
        exact List.mem_of_mem_take h1
      · exact (h.parts g tp hk hbj hr he p hp).1
    show (if p = k then v else x p) = x p
    rw [if_neg fun z : p = k => fr (z ▸ hp2)]
  refine ⟨fun j hj h2 => ?_, fun j hbj h2 => ?_, fun j hj v2 h2 => ?_, fun j hj hbj => ?_⟩
  · unfold iput
    by_cases e : j = k
    · rw [if_pos e, if_pos e]
    · rw [if_neg e, if_neg e]
      refine h.has j hj ?_
      rcases h2 with h2 | h2
      · exact .inl h2
      · rcases (mm j).mp h2 with h3 | h3
        · exact .inr h3
        · exact absurd h3 e
  · unfold iput
    rw [if_neg fun z : j = k => h2 (z ▸ mk)]
    exact h.no j hbj fun z => h2 ((mm j).mpr (.inl z))
  · rw [if_neg]
    · exact h.old j hj v2 h2
    · rintro rfl
      rw [(told0_bnd hb.1).mpr hb] at h2
      cases h2
  · by_cases e : j = k
    · subst e
      obtain ⟨r, hr, he, hs⟩ := hv
      refine ⟨⟨r, hr, he, ?_⟩, fun r hr he => ?_⟩
      · rw [same j (.inr rfl) hbj r hr he, if_pos rfl]
        exact hs
      · rw [same j (.inr rfl) hbj r hr he, if_pos rfl]
        exact hm r hr he
    · have h3 : j ∈ O.take i := by
        rcases (mm j).mp hj with h3 | h3
        · exact h3
        · exact absurd h3 e
      obtain ⟨⟨r, hr, he, hs⟩, h4⟩ := h.top j h3 hbj
      refine ⟨⟨r, hr, he, ?_⟩, fun r hr he => ?_⟩
      · rw [same j (.inl h3) hbj r hr he, if_neg e]
        exact hs
      · rw [same j (.inl h3) hbj r hr he, if_neg e]
        exact h4 r hr he
theorem TS.done (tp : Topo (bE n rs) n O) (hO : O.length = n) (h : TS n rs O n m x) : LenS n rs x ∧ ∀ k, (0 ≤ k ∧ k < (n : Int)) → m k = some (x k) := by
  have full : O.take n = O := by rw [← hO, List.take_length]
  have hm : ∀ k, (0 ≤ k ∧ k < (n : Int)) → k ∈ O.take n := fun k hk => by
    rw [full]
    exact lv_all tp.lv (by omega) hk
  refine ⟨⟨fun k hk hl => h.old k hk _ ?_, fun k hk hl hw => h.old k hk _ ?_, fun k hb => h.top k (hm k hb.1) hb⟩, fun k hk => h.has k hk (.inr (hm k hk))⟩
  · unfold told0
    rw [if_neg fun z => hl (List.contains_iff_mem.mp z)]
  · unfold told0
    rw [if_pos (List.contains_iff_mem.mpr hl), if_pos hw]
end
theorem ed_WB {F : Fm} {σ : L2.St} {B : Hp} {i j : Nat} {vr vd : V} {r : PyData} {n : Nat} {m : IMp} {x : Int → Int} (hi : σ[i]? = some (some vr)) (hj : σ[j]? = some (some vd)) (hv : Dd K B vr r) (hr : RF n r) (hd : DicI m vd B) (hm : ∀ p ∈ prtL r, m p = some (x p)) : ED F K (tCall (spWB K) [] E0 (tCons (tVar i) (tCons (tVar j) tNil))) σ B (.int (szZ x r)) := fun B1 e1 H1 j1 Q1 q1 =>
  ⟨vr, hi, vd, hj, B1, vr, vd, r, n, m, x, rfl, j1.e, hv.up e1, hr, upc_dicI _ _ _ e1 hd, hm, fun B' H' s => q1 _ B' H' s.pure (j1.pure s) (.int _)⟩
variable {c0 c1 c2 CP : Addr}
def spLen (K : PySem.W.Frag) (CP : Addr) : Sp := fun vs H Q _ => ∃ (B : Hp) (vp : V) (n : Nat) (rs : List PyData), vs = [vp] ∧ Ex B H ∧ InsP K CP (.int (n : Nat)) (.tuple rs) vp B ∧ Gs n rs ∧ ∀ v' B' H' (x : Int → Int), Step (fun _ => False) B H B' H' → LenS n rs x → Dd K B' v' (.tuple ((List.range n).map fun k : Nat => .int (x k))) → Q v' H'

abbrev s_lengths : Stmt := topS 75
abbrev N_lengths : List Str := ["pairs", "live", "steps", "kind", "looping", "told", "bounded", "one", "rule"]
theorem sc_lengths : FnScope N_lengths ["pairs"] (defScope s_lengths) := ⟨rfl, rfl, rfl, by decide +kernel, rfl, by decide +kernel, by decide +kernel⟩
theorem ok_lengths (F : Fun K "lengths" "lengths" s_lengths f fd) (T : TP P w K mg base c0 c1 c2 CP) (m_any : mg "any" = none) (m_max : mg "max" = none) (C_live_kinds : Callee P w K mg base "live_kinds" 3 ["pairs"] (spIns K CP fLvK)) (C_live_steps : Callee P w K mg base "live_steps" 4 ["pairs", "live"] (spLS K CP)) (C_kinds_behind : Callee P w K mg base "kinds_behind" 1 ["steps", "kind"] (spKB K)) (C_kinds_in_order : Callee P w K mg base "kinds_in_order" 1 ["steps"] (spKO K)) (C_live_rules : Callee P w K mg base "live_rules" 3 ["pairs", "live"] (spLR K CP)) (C_words_by : Callee P w K mg base "words_by" 2 ["rule", "told"] (spWB K)) : FnOk P w K mg base CX0 5 f fd ["pairs"] (spLen K CP) := by
  refine F.ok sc_lengths (fun vs H Q E h => ?_) (fun cdv A outer s H vs Q E hr h => ?_)
  · obtain ⟨B, vp, n, rs, rfl, _⟩ := h
    rfl
  · obtain ⟨B, vp, n, rs, rfl, e, hp, g, q⟩ := h
    have hu64 : (A.deeper (envOfC "lengths" (defScope s_lengths) s.heap.objs.size f cdv)).units + 64 < cLine := hr.units
    have hu1 : (A.deeper (envOfC "lengths" (defScope s_lengths) s.heap.objs.size f cdv)).units + 1 < cLine := by omega
    refine ⟨_, (pss_cons (ps_set (i := 1) sc_lengths.nd rfl (Or.inl rfl) (pe_callC C_live_kinds (hr.mono (by decide)) rfl pass0 (pa_cons (pv 0) pa_nil)))
      (pss_cons (ps_set (i := 2) sc_lengths.nd rfl (Or.inr rfl) (pe_callC C_live_steps (hr.mono (by decide)) rfl pass0 (pa_cons (pv 0) (pa_cons (pv 1) pa_nil))))
      (pss_cons (ps_set (i := 4) sc_lengths.nd rfl (Or.inr rfl) (pe_lc (own := [("kind", 3)]) rfl sc_lengths.nd (pi_range1 rfl T.m_range (pa_cons (pe_fldK K (pv 0)) pa_nil)) (blkOk_by (own := [("kind", 3)]) (N := N_lengths) (sc := defScope s_lengths) (by decide +kernel)) (fun _ _ _ _ _ => pg_name (i := 3) sc_lengths.nd rfl (Or.inl rfl)) (fun _ _ _ _ _ => (pts_one (pt_cmpR (op_inK K) (pv 3) (pe_callC C_kinds_behind (hr.mono (by decide)) rfl pass0 (pa_cons (pv 2) (pa_cons (pv 3) pa_nil))) (by rfl)))) (fun _ _ _ _ _ => (pv 3))))
      (pss_cons (ps_set (i := 5) sc_lengths.nd rfl (Or.inr rfl) pe_dnewK)
      (pss_cons (ps_for PassesOwn.never rfl (pi_range1 rfl T.m_range (pa_cons (pe_fldK K (pv 0)) pa_nil)) (pg_name (i := 3) sc_lengths.nd rfl (Or.inr rfl)) (pss_one (ps_if (pt_cmpR (op_ninK K) (pv 3) (pv 1) (by rfl)) (pss_one (ps_dput hu1 (pv 5) (pv 3) (pe_gint rfl T.c_NOT_LIVE) rfl)) (pss_one (ps_if (pt_val (pe_callB (cr_anyK K) (by rfl) m_any bt_any (pa_cons (pe_lc (own := [("one", 7)]) rfl sc_lengths.nd (pi_seqK K (pe_tup (pa_cons (pv 3) (pa_star (pe_callC C_kinds_behind (hr.mono (by decide)) rfl pass0 (pa_cons (pv 2) (pa_cons (pv 3) pa_nil))) pa_nil)))) (blkOk_by (own := [("one", 7)]) (N := N_lengths) (sc := defScope s_lengths) (by decide +kernel)) (fun _ _ _ _ _ => pg_name (i := 7) sc_lengths.nd rfl (Or.inl rfl)) (fun _ _ _ _ _ => pts_nil) (fun _ _ _ _ _ => (pe_cmpR (op_inK K) (pv 7) (pv 4) (by rfl)))) pa_nil))) (pss_one (ps_dput hu1 (pv 5) (pv 3) (pe_gint rfl T.c_ENDLESS) rfl)) pss_nil)))))
      (pss_cons (ps_setLc (i := 6) (own := [("kind", 3)]) rfl sc_lengths.nd rfl rfl (sw_true rfl rfl rfl (by decide +kernel)) (pi_range1 rfl T.m_range (pa_cons (pe_fldK K (pv 0)) pa_nil)) (blkOk_by (own := [("kind", 3)]) (N := N_lengths) (sc := defScope s_lengths) (by decide +kernel)) (fun _ _ _ _ _ => pg_name (i := 3) sc_lengths.nd rfl (Or.inl rfl)) (fun _ _ _ _ _ => pts_nil) (fun _ _ _ _ _ => (pe_ifExp (pt_cmp (pc_din hu1 (pv 3) (pv 5))) (pe_lst pa_nil) (pe_ix (ix_seqK K) (pv 2) (pv 3) (fun _ _ => rfl)))))
      (pss_cons (ps_for PassesOwn.never rfl (pi_seqK K (pe_callC C_kinds_in_order (hr.mono (by decide)) rfl pass0 (pa_cons (pv 6) pa_nil))) (pg_name (i := 3) sc_lengths.nd rfl (Or.inr rfl)) (pss_one (ps_if (pt_cmp (pc_dnotin hu1 (pv 3) (pv 5))) (pss_one (ps_dput hu1 (pv 5) (pv 3) (pe_callB (cr_maxLK K rfl) (by rfl) m_max bt_max (pa_cons (pe_lc (own := [("rule", 8)]) rfl sc_lengths.nd (pi_seqK K (pe_callC C_live_rules (hr.mono (by decide)) rfl pass0 (pa_cons (pv 0) (pa_cons (pv 1) pa_nil)))) (blkOk_by (own := [("rule", 8)]) (N := N_lengths) (sc := defScope s_lengths) (by decide +kernel)) (fun _ _ _ _ _ => pg_name (i := 8) sc_lengths.nd rfl (Or.inl rfl)) (fun _ _ _ _ _ => (pts_one (pt_cmpR (op_eqDK K hu64) (pe_ix (ix_seqK K) (pv 8) pe_int (fun _ _ => rfl)) (pv 3) (nomark _)))) (fun _ _ _ _ _ => (pe_callC C_words_by (hr.mono (by decide)) rfl pass0 (pa_cons (pv 8) (pa_cons (pv 5) pa_nil))))) pa_nil)) rfl)) pss_nil)))
      (pss_one (ps_ret (pe_callTy (call_tuple_ofK K) (by rfl) T.m_tuple bt_tuple (pa_cons (pe_lc (own := [("kind", 3)]) rfl sc_lengths.nd (pi_range1 rfl T.m_range (pa_cons (pe_fldK K (pv 0)) pa_nil)) (blkOk_by (own := [("kind", 3)]) (N := N_lengths) (sc := defScope s_lengths) (by decide +kernel)) (fun _ _ _ _ _ => pg_name (i := 3) sc_lengths.nd rfl (Or.inl rfl)) (fun _ _ _ _ _ => pts_nil) (fun _ _ _ _ _ => (pe_dget hu1 (pv 5) (pv 3) (fun _ _ => rfl)))) pa_nil))))))))))), ?_⟩
    have n8 := g.n8
    have l9 := g.l9
    have eg := g.eg (liveL rs n)
    have hLl := live_len g
    refine wq_asg (P := DD K (.list ((liveL rs n).map .int))) (ow_nil (F := Fm.pure) (Ok.any e)) (ed_Ins (fn := fLvK) (i := 0) rfl hp g) fun vl B1 H1 w1 e1 hl => ?_
    have hp := upc_ins _ _ _ e1 hp
    refine wq_asg w1 (ed_LS (i := 0) (j := 1) rfl rfl hp g hl (by omega)) fun vs B2 H2 w2 e2 hs => ?_
    have hp := upc_ins _ _ _ e2 hp
    have hl := hl.up e2
    refine wq_asg (P := DD K (.list (((List.range n).filter fun i : Nat => rchB (lE n rs) n (i : Int) (i : Int)).map fun i : Nat => .int (i : Int)))) w2 (ed_lcR (K := K) (n := (n : Nat)) (fun i : Nat => rchB (lE n rs) n (i : Int) (i : Int)) (fun i : Nat => .int (i : Int)) (eds_cons (ev_kinds T (i := 0) rfl hp) eds_nil) ⟨by omega, by omega⟩ (fun _ => rfl) (fun i B3 hi e3 => et_cmp (ed_inKB (i := 2) rfl (hs.up e3) (ed_var (i := 3) rfl (.int (i : Int))) (ed_var (i := 3) rfl (.int (i : Int))) eg (by omega))) (fun i B3 hi _ e3 => ed_var (i := 3) rfl (.int (i : Int)))) fun vlp B3 H3 w3 e3 hlp => ?_
    have hp := upc_ins _ _ _ e3 hp
    have hl := hl.up e3
    have hs := hs.up e3
    refine wq_dictK (i := 5) w3 fun na w4 => ?_
    have lpi : ((List.range n).filter fun i : Nat => rchB (lE n rs) n (i : Int) (i : Int)).map (fun i : Nat => PyData.int (i : Int)) = ((((List.range n).filter fun i : Nat => rchB (lE n rs) n (i : Int) (i : Int)).map fun i : Nat => (i : Int)).map .int) := by rw [List.map_map]; rfl
    have hlp : Dd K B3 vlp (.list ((((List.range n).filter fun i : Nat => rchB (lE n rs) n (i : Int) (i : Int)).map fun i : Nat => (i : Int)).map .int)) := by rw [← lpi]; exact hlp
    refine oq_rng1 (K := K) (F := Fm.pure) (n := (n : Nat)) (j := 3) w4.k (eds_cons (ev_kinds T (i := 0) rfl hp) eds_nil) (by omega) (fun i σ' B' H' => (∃ o3, σ' = [some vp, some vl, some vs, o3, some vlp, some (.ref na), none, none, none]) ∧ Ex B3 B' ∧ ∃ kvs N, Ow Fm.pure B H B' H' [(na, .dK kvs)] ∧ KD (toldN n rs i) N kvs ∧ N ≤ i)
      (fun B5 H5 s5 k5 => ⟨⟨_, rfl⟩, s5.bb, [], 0, w4.pass s5 k5, by rw [toldN_zero]; exact kd_nil, Nat.le_refl _⟩) (fun Bc i σ' B5 H5 ec hi e5 hj => ?_) (fun σ' B5 H5 e5 hj => ?_)
    · obtain ⟨⟨o3, rfl⟩, e35, kvs, N, w5, kd, hN⟩ := hj
      have hi' : i < n := by omega
      have hkl := kd.len
      refine ws_if w5 (b := !(liveL rs n).contains (i : Int)) (et_is (et_cmp (ed_op (ed_var (i := 3) rfl (.int (i : Int))) (ed_var (i := 1) rfl (hl.up e35)) (rd_notin (.inl rfl) rfl (flatI _)))) (congrArg Bool.not (inD_int _ _))) (fun hb B6 H6 w6 e6 => ?_) (fun hb B6 H6 w6 e6 => ?_)
      · refine ws_iput (K := K) w6 (i := 5) rfl (ed_int (i := -1)) (ed_var (i := 3) rfl (.int (i : Int))) (by omega) fun H7 w7 => ⟨B6, e5.trans e6, ⟨_, rfl⟩, e35.trans e6, _, N + 1, w7, ?_, by omega⟩
        rw [← toldN_some (v := -1)]
        · exact kd.put _ _
        · unfold told0
          rw [if_neg (by simpa using hb)]
      · have hc : (liveL rs n).contains (i : Int) = true := by simpa using hb
        refine ws_if w6 (b := wdB (lE n rs) n (i : Nat)) (et_val (ed_anyX (ev_lcX (ev_kbT (i := 2) (n := n) (k := i) rfl (hs.up (e35.trans e6)) (ed_var (i := 3) rfl (.int (i : Int))) (ed_var (i := 3) rfl (.int (i : Int))) eg hi') fun ds v B7 ⟨S, hS, eds⟩ e7 gd => EV.imp (P := DD K (.list ((((((i : Nat) : Int) :: S).map fun j => (((List.range n).filter fun i : Nat => rchB (lE n rs) n (i : Int) (i : Int)).map fun i : Nat => (i : Int)).contains j)).map .bool))) (ed_is (ed_lcD (K := K) (ds := ds) (fun _ => true) (fun d => .bool ((((List.range n).filter fun i : Nat => rchB (lE n rs) n (i : Int) (i : Int)).map fun i : Nat => (i : Int)).contains (numI d))) (ev_seqT (ed_v gd)) (by have := hS.len; rw [eds, List.length_map]; show S.length + 1 ≤ _; omega) (fun _ => rfl) (fun d u B8 hm e8 hu => et_yes) (fun d u B8 hm _ e8 hu => ?_)) ?_) fun v _ _ gv => ⟨_, any_wd eg hS hi', gv⟩))) (fun hw B7 H7 w7 e7 => ?_) (fun hw B7 H7 w7 e7 => ?_)
        · rw [eds] at hm
          obtain ⟨z, _, rfl⟩ := List.mem_map.mp hm
          exact ed_is (ed_op (ed_var (i := 7) rfl hu) (ed_var (i := 4) rfl (hlp.up (((e35.trans e6).trans e7).trans e8))) (rd_isin (.inl rfl) rfl (flatI _))) (congrArg PyData.bool (inD_int _ _))
        · rw [List.filter_eq_self.mpr (fun _ _ => rfl), eds, List.map_map, List.map_map]
          rfl
        · refine ws_iput (K := K) w7 (i := 5) rfl (ed_int (i := -2)) (ed_var (i := 3) rfl (.int (i : Int))) (by omega) fun H8 w8 => ⟨B7, (e5.trans e6).trans e7, ⟨_, rfl⟩, (e35.trans e6).trans e7, _, N + 1, w8, ?_, by omega⟩
          rw [← toldN_some (v := -2)]
          · exact kd.put _ _
          · unfold told0
            rw [if_pos hc, if_pos hw]
        · refine ⟨B7, (e5.trans e6).trans e7, ⟨_, rfl⟩, (e35.trans e6).trans e7, kvs, N, w7, ?_, by omega⟩
          rw [← toldN_none]
          · exact kd
          · unfold told0
            rw [if_pos hc, if_neg (by rw [hw]; decide)]
    obtain ⟨⟨o3, rfl⟩, e35, kvs, N, w5, kd, hN⟩ := hj
    have kd : KD (toldN n rs n) N kvs := kd
    have hp := upc_ins _ _ _ e35 hp
    have hl := hl.up e35
    have hs := hs.up e35
    have e3all := (e1.trans e2).trans (e3.trans e35)
    refine wm_asg (i := 6) (o := .dK kvs) (ho := trivial) (P := DD K (adjD (bE n rs) n)) w5 (ed_is (ed_lcR (K := K) (n := (n : Nat)) (fun _ => true) (fun i : Nat => .list ((adj (bE n rs) (i : Nat)).map .int)) (eds_cons (ev_kinds T (i := 0) rfl hp) eds_nil) ⟨by omega, by omega⟩ (fun _ => rfl) (fun i B6 hi e6 => et_yes) (fun i B6 hi _ e6 => ?_)) (by rw [List.filter_eq_self.mpr (fun _ _ => rfl)]; rfl)) fun vb B6 H6 w6 e6 hbd => ?_
    · have ti : toldN n rs n (i : Nat) = told0 n rs (i : Nat) := by
        unfold toldN
        rw [if_pos (by omega)]
      rw [told0_adj]
      refine ev_if (b := (toldN n rs n (i : Nat)).isSome) (et_val (K := K) (ev_minI (i := 5) rfl (ed_var (i := 3) rfl (.int (i : Int))) kd)) (fun hb => ?_) (fun hb => ?_)
      · rw [ti] at hb
        rw [if_pos hb]
        exact ed_lst eds_nil
      · rw [ti] at hb
        rw [if_neg (by rw [hb]; decide)]
        exact ed_op (ed_var (i := 2) rfl (hs.up e6)) (ed_var (i := 3) rfl (.int (i : Int))) (rd_ixL (adjD_at (by omega)))
    have hp := upc_ins _ _ _ e6 hp
    have hl := hl.up e6
    have cal : EV Fm.pure (tCall (spKO K) [] E0 (tCons (tVar 6) tNil)) [some vp, some vl, some vs, o3, some vlp, some (.ref na), some vb, none, none] B6 (fun v B => ∃ O, Topo (bE n rs) n O ∧ O.length = n ∧ Dd K B v (.list (O.map .int))) := fun B1 e1 H1 j1 Q1 q1 => ⟨vb, rfl, B1, vb, n, bE n rs, rfl, j1.e, hbd.up e1, bE_eg g, bE_acy g, fun v' B' H' O s tp hO h => q1 v' B' H' s.pure (j1.pure s) ⟨O, tp, hO, h⟩⟩
    refine cal B6 (Ex.refl B6) H6 w6.k _ fun vO B7 H7 s7 k7 ⟨O, tp, hO, hdO⟩ => ?_
    have w7 := w6.pass s7 k7
    have hp := upc_ins _ _ _ s7.bb hp
    have hl := hl.up s7.bb
    refine oq_forD (K := K) (F := Fm.pure) (tl := tC vO) (g := gName 3) (ds := O.map .int) w7.k (ev_seqL (ed_v hdO)) (fun i σ' B' H' => (∃ o3, σ' = [some vp, some vl, some vs, o3, some vlp, some (.ref na), some vb, none, none]) ∧ Ex B7 B' ∧ ∃ kvs N m x, Ow Fm.pure B H B' H' [(na, .dK kvs)] ∧ KD m N kvs ∧ N ≤ n + i ∧ TS n rs O i m x) (fun i σ' B' H' ⟨_, _, _, _, _, _, w', _⟩ => w'.k.e)
      (fun B8 H8 s8 k8 => ⟨⟨_, rfl⟩, s8.bb, kvs, N, _, _, w7.pass s8 k8, kd, by omega, ts_start⟩) (fun Bc i d v σ' B8 H8 hd ec e8 hv hj => ?_) (fun σ' B8 H8 e8 hj => ?_)
    · obtain ⟨⟨o3, rfl⟩, e78, kvs, N, m, x, w8, kd, hN, ts⟩ := hj
      rw [List.getElem?_map] at hd
      obtain ⟨k, hk, rfl⟩ := Option.map_eq_some_iff.mp hd
      obtain rfl := dd_int hv
      have hkr := tp.lv.rg k (List.mem_of_getElem? hk)
      have hin : i < n := by have := (List.getElem?_eq_some_iff.mp hk).1; omega
      have hkl := kd.len
      dsimp only [gName]
      refine wl_if w8 (b := !(m k).isSome) (et_val (K := K) (ev_inin (Dx.ev_var (P := DicI m) (i := 5) rfl upc_dicI (own_dicI w8 kd)) (ed_var (i := 3) rfl (.int k)))) (fun hb H9 w9 => ?_) (fun hb H9 w9 => ?_)
      · have hbn : bnd n rs k := Classical.byContradiction fun hnb => by
          rw [ts.has k hkr (.inl hnb)] at hb
          cases hb
        have hne : ((gdL n rs).filter fun r => hdI r == k).map (szZ x) ≠ [] := by
          obtain ⟨r, hr, he⟩ := live_rule g hbn.2.1
          intro z
          rw [List.map_eq_nil_iff] at z
          have : r ∈ (gdL n rs).filter fun r => hdI r == k := List.mem_filter.mpr ⟨hr, beq_iff_eq.mpr he⟩
          rw [z] at this
          cases this
        obtain ⟨M, hM, hMx⟩ := max_ex hne
        have eS := w9.shut.2.1
        have hgl : (gdL n rs).length ≤ 12 := Nat.le_trans (List.length_filter_le _ _) l9
        refine ws_iput (K := K) (n := M) w9 (i := 5) rfl (ev_cb (eds_cons (ed_is (ed_lcD (K := K) (ds := gdL n rs) (fun r => hdI r == k) (fun r => .int (szZ x r)) (ev_seqL (ed_LR (i := 0) (j := 1) rfl rfl (upc_ins _ _ _ (e78.trans eS) hp) g (hl.up (e78.trans eS)) (by omega))) (by omega) (fun _ => rfl) (fun r u B9 hm e9 hu => ?_) (fun r u B9 hm hq e9 hu => ?_)) (by rw [show (fun r => PyData.int (szZ x r)) = PyData.int ∘ szZ x from rfl, ← List.map_map])) eds_nil) (rc_max hM hMx)) (ed_var (i := 3) rfl (.int k)) (by omega) fun H10 w10 => ?_
        · exact et_is (et_cmp (ed_op (ed_hd (i := 8) rfl hu (gd_rf g r hm)) (ed_var (i := 3) rfl (.int k)) (rd_eqD rfl rfl))) (eqv_int _ _)
        · have he : hdI r = k := beq_iff_eq.mp hq
          exact ed_WB (i := 8) (j := 5) rfl rfl hu (gd_rf g r hm) (upc_dicI _ _ _ e9 (own_dicI w9 kd)) fun p hp => (ts.parts g tp hk hbn hm he p hp).2
        · refine ⟨B8, e8, ⟨_, rfl⟩, e78, _, N + 1, _, _, w10, kd.put k M, by omega, ts.put g tp hk hbn ?_ fun r hr he => hMx _ (List.mem_map.mpr ⟨r, List.mem_filter.mpr ⟨hr, beq_iff_eq.mpr he⟩, rfl⟩)⟩
          obtain ⟨r, hr, e⟩ := List.mem_map.mp hM
          exact ⟨r, (List.mem_filter.mp hr).1, beq_iff_eq.mp (List.mem_filter.mp hr).2, e⟩
      · have hnb : ¬ bnd n rs k := fun hbn => by
          rw [ts.no k hbn (ts_fresh tp.lv.nd hk)] at hb
          cases hb
        exact ⟨B8, e8, ⟨_, rfl⟩, e78, kvs, N, m, x, w9, kd, by omega, ts.skip hk hkr hnb⟩
    obtain ⟨⟨o3, rfl⟩, e78, kvs, N, m, x, w8, kd, hN, ts⟩ := hj
    rw [List.length_map, hO] at ts
    obtain ⟨len, has⟩ := ts.done tp hO
    obtain ⟨w9, e9⟩ := w8.drop
    have dic : DicI m (.ref na) (upd B8 na (.dK kvs)) := ⟨na, kvs, N, rfl, upd_same, kd⟩
    have hp := upc_ins _ _ _ (e78.trans e9) hp
    refine ws_ret w9 (ev_cb (eds_cons (ed_is (ed_lcR (K := K) (n := (n : Nat)) (fun _ => true) (fun i : Nat => .int (x (i : Nat))) (eds_cons (ev_kinds T (i := 0) rfl hp) eds_nil) ⟨by omega, by omega⟩ (fun _ => rfl) (fun i B6 hi e6 => et_yes) (fun i B6 hi _ e6 => ev_iget (m := m) (Dx.ev_var (P := DicI m) (i := 5) rfl upc_dicI (upc_dicI _ _ _ e6 dic)) (ed_var (i := 3) rfl (.int (i : Int))) (has _ ⟨by omega, by omega⟩))) (by rw [List.filter_eq_self.mpr (fun _ _ => rfl)]; rfl)) eds_nil) rc_tupL) fun v9 B9 H9 w10 e10 g9 => q _ B9 H9 x w10.st len g9

end
end K50

namespace K50
open PySem PySem.Spec PyProof.Rows L2 Evl Ex Dx StX
open PySem.PyData (strOk)
section
variable {P : Program} {w : World} {K : PySem.W.Frag} {mg : Str → Option Value} {base : Heap} {f : Addr} {fd : FuncData}

abbrev s_InvalidRule_init : Stmt := inClass (topS 13) 0
abbrev N_InvalidRule_init : List Str := ["self", "value"]
theorem sc_InvalidRule_init : FnScope N_InvalidRule_init ["self", "value"] (defScope s_InvalidRule_init) := ⟨rfl, rfl, rfl, by decide +kernel, rfl, by decide +kernel, by decide +kernel⟩
theorem ok_InvalidRule {fI G C : Addr} {mc : Value} (F : Fun K "__init__" "InvalidRule.__init__" s_InvalidRule_init fI fd) (hg : mg "GraftError" = some (.ref G)) (rd : ClX.CRead K G mc) (gi : PySem.W.findCls K (.ref G) mc "__init__" = some (.val (.builtin "ValueError.__init__"))) (oc : OexC K C) (no : PySem.W.findIn K (.ref C) "value" = some none) :
    FnOk P w K mg base CX0 1 fI fd ["self", "value"] (spInit C "value") := by
  refine F.ok sc_InvalidRule_init (fun vs H Q E h => ?_) (fun cdv A outer s H vs Q E hr h => ?_)
  · obtain ⟨a, v, rfl, _⟩ := h
    rfl
  · obtain ⟨a, v, rfl, ha, k⟩ := h
    refine ⟨_, (pss_cons (ps_expr (pe_ginit rd gi rfl hg (pa_cons (pv 0) (pa_cons pe_str pa_nil))))
      (pss_one (ps_ost (pv 0) (pv 1)))), ?_⟩
    refine ⟨.ref a, rfl, a, C, _, rfl, (by show 1 ≤ 1000; decide), oc, ha, ?_⟩
    exact ⟨v, rfl, .ref a, rfl, a, C, rfl, oc, no, .inl ⟨ha, fun dx hdx hne => k dx hdx hne⟩⟩
abbrev s_Undefined_init : Stmt := inClass (topS 18) 0
abbrev N_Undefined_init : List Str := ["self", "what"]
theorem sc_Undefined_init : FnScope N_Undefined_init ["self", "what"] (defScope s_Undefined_init) := ⟨rfl, rfl, rfl, by decide +kernel, rfl, by decide +kernel, by decide +kernel⟩
theorem ok_Undefined {fI G C : Addr} {mc : Value} (F : Fun K "__init__" "Undefined.__init__" s_Undefined_init fI fd) (hg : mg "GraftError" = some (.ref G)) (rd : ClX.CRead K G mc) (gi : PySem.W.findCls K (.ref G) mc "__init__" = some (.val (.builtin "ValueError.__init__"))) (oc : OexC K C) (no : PySem.W.findIn K (.ref C) "what" = some none) :
    FnOk P w K mg base CX0 1 fI fd ["self", "what"] (spInit C "what") := by
  refine F.ok sc_Undefined_init (fun vs H Q E h => ?_) (fun cdv A outer s H vs Q E hr h => ?_)
  · obtain ⟨a, v, rfl, _⟩ := h
    rfl
  · obtain ⟨a, v, rfl, ha, k⟩ := h
    refine ⟨_, (pss_cons (ps_expr (pe_ginit rd gi rfl hg (pa_cons (pv 0) (pa_cons pe_str pa_nil))))
      (pss_one (ps_ost (pv 0) (pv 1)))), ?_⟩
    refine ⟨.ref a, rfl, a, C, _, rfl, (by show 1 ≤ 1000; decide), oc, ha, ?_⟩
    exact ⟨v, rfl, .ref a, rfl, a, C, rfl, oc, no, .inl ⟨ha, fun dx hdx hne => k dx hdx hne⟩⟩
abbrev s_NothingToUndo_init : Stmt := inClass (topS 19) 0
abbrev N_NothingToUndo_init : List Str := ["self", "word"]
theorem sc_NothingToUndo_init : FnScope N_NothingToUndo_init ["self", "word"] (defScope s_NothingToUndo_init) := ⟨rfl, rfl, rfl, by decide +kernel, rfl, by decide +kernel, by decide +kernel⟩
theorem ok_NothingToUndo {fI G C : Addr} {mc : Value} (F : Fun K "__init__" "NothingToUndo.__init__" s_NothingToUndo_init fI fd) (hg : mg "GraftError" = some (.ref G)) (rd : ClX.CRead K G mc) (gi : PySem.W.findCls K (.ref G) mc "__init__" = some (.val (.builtin "ValueError.__init__"))) (oc : OexC K C) (no : PySem.W.findIn K (.ref C) "word" = some none) :
    FnOk P w K mg base CX0 1 fI fd ["self", "word"] (spInit C "word") := by
  refine F.ok sc_NothingToUndo_init (fun vs H Q E h => ?_) (fun cdv A outer s H vs Q E hr h => ?_)
  · obtain ⟨a, v, rfl, _⟩ := h
    rfl
  · obtain ⟨a, v, rfl, ha, k⟩ := h
    refine ⟨_, (pss_cons (ps_expr (pe_ginit rd gi rfl hg (pa_cons (pv 0) (pa_cons pe_str pa_nil))))
      (pss_one (ps_ost (pv 0) (pv 1)))), ?_⟩
    refine ⟨.ref a, rfl, a, C, _, rfl, (by show 1 ≤ 1000; decide), oc, ha, ?_⟩
    exact ⟨v, rfl, .ref a, rfl, a, C, rfl, oc, no, .inl ⟨ha, fun dx hdx hne => k dx hdx hne⟩⟩

/-! ### what a desk is -/
structure TK (P : Program) (w : World) (K : PySem.W.Frag) (mg : Str → Option Value) (base : Heap) (c0 c1 c2 CP cR cU cN CD : Addr) : Prop extends TP P w K mg base c0 c1 c2 CP where
  x_InvalidRule : ExcAt P w K mg base "InvalidRule" "value" cR
  x_Undefined : ExcAt P w K mg base "Undefined" "what" cU
  x_NothingToUndo : ExcAt P w K mg base "NothingToUndo" "word" cN
  mR0 : PySem.W.exmOne K (.ref cR) (.ref c0) = some false
  mRR : PySem.W.exmOne K (.ref cR) (.ref cR) = some true
  mU0 : PySem.W.exmOne K (.ref cU) (.ref c0) = some false
  mUR : PySem.W.exmOne K (.ref cU) (.ref cR) = some false
  mUU : PySem.W.exmOne K (.ref cU) (.ref cU) = some true
  g_Desk : mg "Desk" = some (.ref CD)
  cD : Cls K CD
  n_pairs : NoAttr K CD "pairs"
  n_watched : NoAttr K CD "watched"
  n_many : NoAttr K CD "many"
  n_before : NoAttr K CD "_before"
  n_behind : NoAttr K CD "_behind"
  n_kept : NoAttr K CD "_kept"
  n_report : NoAttr K CD "_report"
  eqD : PySem.W.findIn K (.ref CD) "__eq__" = some (some (.builtin "object.__eq__"))
  moD : PySem.W.mroIn K CD (.type "object") = some true
  neP : PySem.W.findIn K (.ref CP) "__ne__" = some (some (.builtin "object.__ne__"))
variable {c0 c1 c2 CP cR cU cN CD : Addr}
def dkF (vp vw : V) (m : Nat) (ba ea : Addr) (vk vr : V) : List (Str × V) := [("pairs", vp), ("watched", vw), ("many", .int (m : Nat)), ("_before", .ref ba), ("_behind", .ref ea), ("_kept", vk), ("_report", vr)]
/-- pairs and no watched questions, kept for a way back -/
def BP (K : PySem.W.Frag) (CP : Addr) (n : Nat) (rs : List PyData) (B : Hp) (v : V) : Prop := ∃ t vx vw, v = .ref t ∧ B t = some (.tup [vx, vw]) ∧ InsP K CP (.int (n : Nat)) (.tuple rs) vx B ∧ Dd K B vw (.tuple [])
theorem BP.up {n : Nat} {rs : List PyData} {B B' : Hp} {v : V} (h : BP K CP n rs B v) (e : Ex B B') : BP K CP n rs B' v := by
  obtain ⟨t, vx, vw, rfl, h1, h2, h3⟩ := h
  exact ⟨t, vx, vw, rfl, e _ _ h1, upc_ins _ _ _ e h2, h3.up e⟩
inductive BPs (K : PySem.W.Frag) (CP : Addr) (n : Nat) (B : Hp) : List V → List (List PyData) → Prop
  | nil : BPs K CP n B [] []
  | cons {v : V} {r : List PyData} {vs : List V} {rs : List (List PyData)} (h : BP K CP n r B v) (t : BPs K CP n B vs rs) : BPs K CP n B (v :: vs) (r :: rs)
theorem BPs.len {n : Nat} {B : Hp} : ∀ {vs : List V} {bs : List (List PyData)}, BPs K CP n B vs bs → vs.length = bs.length
  | _, _, .nil => rfl
  | _, _, .cons _ t => congrArg Nat.succ t.len
theorem BPs.up {n : Nat} {B B' : Hp} (e : Ex B B') : ∀ {vs : List V} {bs : List (List PyData)}, BPs K CP n B vs bs → BPs K CP n B' vs bs
  | _, _, .nil => .nil
  | _, _, .cons h t => .cons (h.up e) (t.up e)
theorem BPs.snoc {n : Nat} {B : Hp} {v : V} {r : List PyData} (g : BP K CP n r B v) : ∀ {vs : List V} {bs : List (List PyData)}, BPs K CP n B vs bs → BPs K CP n B (vs ++ [v]) (bs ++ [r])
  | _, _, .nil => .cons g .nil
  | _, _, .cons h t => .cons h (t.snoc g)
theorem BPs.unsnoc {n : Nat} {B : Hp} {r : List PyData} : ∀ {bs : List (List PyData)} {vs : List V}, BPs K CP n B vs (bs ++ [r]) → ∃ vs' v, vs = vs' ++ [v] ∧ BPs K CP n B vs' bs ∧ BP K CP n r B v
  | [], vs, h => by
    cases h with
    | cons h t =>
      cases t
      exact ⟨[], _, rfl, .nil, h⟩
  | b :: bs, vs, h => by
    cases h with
    | cons h t =>
      obtain ⟨vs', v, rfl, h1, h2⟩ := t.unsnoc
      exact ⟨_ :: vs', v, rfl, .cons h h1, h2⟩
/-- a desk at d: n kinds, rules rs, m deeds counted; what can be undone and redone -/
structure DkM (K : PySem.W.Frag) (CP CD : Addr) (n : Nat) (rs : List PyData) (m : Nat) (bs es : List (List PyData)) (d : Addr) (L3 : List (Addr × HO)) (B : Hp) : Prop where
  ex : ∃ dx vp vw ba ea vk vr xs ys, L3 = [(d, .ins CD dx (dkF vp vw m ba ea vk vr)), (ba, .lst xs), (ea, .lst ys)] ∧ InsP K CP (.int (n : Nat)) (.tuple rs) vp B ∧ Dd K B vw (.tuple []) ∧ Dd K B vr (.tuple []) ∧ BPs K CP n B xs bs ∧ BPs K CP n B ys es
theorem DkM.up {n m : Nat} {rs : List PyData} {bs es : List (List PyData)} {d : Addr} {L3 : List (Addr × HO)} {B B' : Hp} (h : DkM K CP CD n rs m bs es d L3 B) (e : Ex B B') : DkM K CP CD n rs m bs es d L3 B' := by
  obtain ⟨dx, vp, vw, ba, ea, vk, vr, xs, ys, h1, h2, h3, h4, h5, h6⟩ := h.ex
  exact ⟨dx, vp, vw, ba, ea, vk, vr, xs, ys, h1, upc_ins _ _ _ e h2, h3.up e, h4.up e, h5.up e, h6.up e⟩
abbrev DkD (K : PySem.W.Frag) (CP CD : Addr) (n : Nat) (rs : List PyData) (bs es : List (List PyData)) (d : Addr) (L3 : List (Addr × HO)) (B : Hp) : Prop := DkM K CP CD n rs bs.length bs es d L3 B
/-- grammars at a desk -/
structure SG (n : Nat) (rs : List PyData) : Prop where
  n1 : 1 ≤ n
  n8 : n ≤ 8
  l1 : 1 ≤ rs.length
  l12 : rs.length ≤ 12
  ok : ∀ r ∈ rs, RG n r
  bk : backK (edges rs) n = none
theorem SG.due {n : Nat} {rs : List PyData} (G : SG n rs) : dueD (.int (n : Nat)) (.tuple rs) = .tuple [.str "kept", .int (n : Nat), .tuple rs] := by
  have n1 := G.n1
  have n8 := G.n8
  have hr : rulesD (.tuple rs) n = true := by
    have l9 := G.l12
    have l1 := G.l1
    rw [rulesD_tup, decide_eq_true (show (1 : Int) ≤ (rs.length : Nat) by omega), decide_eq_true (show ((rs.length : Nat) : Int) ≤ 90 by omega), List.all_eq_true.mpr fun r hr => (G.ok r hr).1]
    rfl
  rw [due_back (n := (n : Nat)) ⟨by omega, by omega⟩ hr]
  have hb : backK (edges rs) ((n : Int)).toNat = none := G.bk
  rw [hb]
theorem SG.gs {n : Nat} {rs : List PyData} (G : SG n rs) : Gs n rs := ⟨G.n8, G.n1, G.l12, fun r hr => rg_rf (G.ok r hr)⟩

end
end K50

namespace K50
open PySem PySem.Spec PyProof.Rows L2 Evl Ex Dx StX
open PySem.PyData (strOk)
section
variable {P : Program} {w : World} {K : PySem.W.Frag} {mg : Str → Option Value} {base : Heap} {f : Addr} {fd : FuncData}


/-! ### _become -/
theorem pg_tupK {X : Cx} (K : PySem.W.Frag) {es : List Expr} {k : Nat} {t : TGs} {n : Nat} {pos : Pos} (hc : X.calm = true) (h : PGs X es t) (hn : (assignEach es X.env).length = n := by rfl) (hst : (assignEach es X.env).findIdx? (·.1) = none := by rfl) (hK : X.K = K := by rfl) : PG X (.Tuple es k pos) (gTup K n t) := by subst hK; exact pg_tup hc h hn hst
def spNever : Sp := fun _ _ _ _ => False
theorem ok_never {P : Program} {w : World} {K : PySem.W.Frag} {mg : Str → Option Value} {base : Heap} {CX : CXT} {k : Nat} {f : Addr} {fd : FuncData} {ps : List Str} : FnOk P w K mg base CX k f fd ps spNever := ⟨fun _ _ _ _ h => h.elim, fun _ _ _ _ _ _ _ _ _ _ _ _ _ h => h.elim⟩
theorem pass0S {X : Cx} : ∀ σ : L2.St, PassesAt CX0 X σ ((fun _ => E0 : L2.St → XK) σ) := fun _ _ _ _ _ _ _ h => h.elim
section
variable {F : Fm} {L : List (Addr × HO)} {hn : ∀ p ∈ L, nT p.2} {σ : L2.St} {B : Hp} {i : Nat} {a ba C dx : Addr} {fs : List (Str × V)} {n : Str} {xs : List V}
theorem ev_lenO {m : Str} (hi : σ[i]? = some (some (.ref a))) (hm : (a, HO.ins C dx fs) ∈ L) (c : Cls K C) (na : NoAttr K C m) (l : fs.lookup m = some (.ref ba)) (hb : (ba, HO.lst xs) ∈ L) : ED (F.wL L hn) K (tCB (rLnK K) (tCons (tFld K (tVar i) m) tNil)) σ B (.int (xs.length : Nat)) := fun B1 e1 H1 j1 Q1 q1 =>
  ⟨.ref a, hi, a, C, dx, fs, .ref ba, rfl, j1.j.2 _ hm, c, na, l, .ref ba, xs.length, rfl, .inl ⟨xs, sq_of (j1.j.2 _ hb), rfl⟩, q1 _ B1 H1 (Step.refl j1.e) j1 (.int _)⟩
theorem ev_dcE {F : Fm} {g : TG} {tt : TT} {tk tv : TE} {vs : List Nat} {j : Nat} {v u : V} (hi : σ[i]? = some (some v)) (hj : σ[j]? = some (some u)) (hv : Dd K B v (.tuple [])) (hu : Dd K B u (.list [])) : EV F (Cn.tDcT (Zt.iZipE K (tCons (tVar i) (tCons (tVar j) tNil))) g tt tk tv vs) σ B (fun _ _ => True) := fun B1 e1 H1 j1 Q1 q1 => by
  obtain ⟨a, xs, rfl, h1, _, g1⟩ := dd_tup hv
  obtain ⟨b, ys, rfl, h2, _, g2⟩ := dd_lst hu
  cases g1
  have ht : ∀ H2, Ex H1 H2 → SqT K H2 a [] := fun H2 e => ex_t e (ex_t j1.e (ex_t e1 h1))
  refine ⟨.ref a, hi, .ref b, hj, a, b, ys, rfl, ht H1 (Ex.refl H1), ex_l j1.e (ex_l e1 (sq_of h2)), fun D hD => ⟨fun i _ H => H = upd H1 D (.dT []), ⟨0, rfl⟩, fun i m H hw => .inl ⟨?_, ?_⟩⟩⟩
  · rw [hw]
    exact ht _ (Ex.new hD)
  · rw [hw]
    exact q1 (.ref D) _ _ (Step.alloc j1.e hD) (j1.alloc hD) trivial
end
def spBec (K : PySem.W.Frag) (CP CD : Addr) : Sp := fun vs H Q _ => ∃ (F : Fm) (B0 H0 B : Hp) (L3 L : List (Addr × HO)) (n m : Nat) (rs rs' : List PyData) (bs es : List (List PyData)) (d : Addr) (vp' vw' : V), vs = [.ref d, vp', vw'] ∧ Ow F B0 H0 B H (L3 ++ L) ∧ DkM K CP CD n rs m bs es d L3 B ∧ InsP K CP (.int (n : Nat)) (.tuple rs') vp' B ∧ Dd K B vw' (.tuple []) ∧
  ∀ B' H' L3', Ow F B0 H0 B' H' (L3' ++ L) → Ex B B' → DkD K CP CD n rs' bs es d L3' B' → Q .non H'

abbrev s_Desk_become : Stmt := inClass (topS 102) 15
abbrev N_Desk_become : List Str := ["self", "pairs", "watched", "looked", "question", "kept", "_", "word"]
theorem sc_Desk_become : FnScope N_Desk_become ["self", "pairs", "watched"] (defScope s_Desk_become) := ⟨rfl, rfl, rfl, by decide +kernel, rfl, by decide +kernel, by decide +kernel⟩
theorem ok_become (F : Fun K "_become" "Desk._become" s_Desk_become f fd) (T : TK P w K mg base c0 c1 c2 CP cR cU cN CD) (m_zip : mg "zip" = none) (C_looked_at : Callee P w K mg base "looked_at" 1 ["pairs", "question", "kept"] spNever) : FnOk P w K mg base CX0 2 f fd ["self", "pairs", "watched"] (spBec K CP CD) := by
  refine F.ok sc_Desk_become (fun vs H Q E h => ?_) (fun cdv A outer s H vs Q E hr h => ?_)
  · obtain ⟨F, B0, H0, B, L3, L, n, m, rs, rs', bs, es, d, vp', vw', rfl, _⟩ := h
    rfl
  · obtain ⟨F, B0, H0, B, L3, L, n, m, rs, rs', bs, es, d, vp', vw', rfl, w, hd, hp', hw', q⟩ := h
    have hu64 : (A.deeper (envOfC "Desk._become" (defScope s_Desk_become) s.heap.objs.size f cdv)).units + 64 < cLine := hr.units
    have hu1 : (A.deeper (envOfC "Desk._become" (defScope s_Desk_become) s.heap.objs.size f cdv)).units + 1 < cLine := by omega
    have hu0 : (A.deeper (envOfC "Desk._become" (defScope s_Desk_become) s.heap.objs.size f cdv)).units < cLine := by omega
    refine ⟨_, (pss_cons (ps_setLc (i := 3) (own := [("question", 4)]) rfl sc_Desk_become.nd rfl rfl (sw_true rfl rfl rfl (by decide +kernel)) (pi_seqK K (pv 2)) (blkOk_by (own := [("question", 4)]) (N := N_Desk_become) (sc := defScope s_Desk_become) (by decide +kernel)) (fun _ _ _ _ _ => (pg_name (i := 4) sc_Desk_become.nd rfl (Or.inl rfl))) (fun _ _ _ _ _ => pts_nil) (fun _ _ _ _ _ => (pe_callC C_looked_at (hr.mono (by decide)) rfl pass0 (pa_cons (pv 1) (pa_cons (pv 4) (pa_cons (pe_dget1 hu1 (pe_fldK K (pv 0)) (pv 4) ⟨rfl, rfl, rfl, rfl⟩) pa_nil))))))
      (pss_cons (ps_fld (pv 0) (pv 1) rfl)
      (pss_cons (ps_fld (pv 0) (pv 2) rfl)
      (pss_cons (ps_fld (pv 0) (pe_callB (call_lenK K) (by rfl) T.m_len bt_len (pa_cons (pe_fldK K (pv 0)) pa_nil)) rfl)
      (pss_cons (ps_fld (pv 0) (Cn.pe_dcT (own := [("question", 4), ("kept", 5), ("_", 6)]) (tt := tYes) hu0 rfl sc_Desk_become.nd (Zt.pi_zipE K rfl m_zip (pa_cons (pv 2) (pa_cons (pv 3) pa_nil))) (blkOk_by (own := [("question", 4), ("kept", 5), ("_", 6)]) (N := N_Desk_become) (sc := defScope s_Desk_become) (by decide +kernel)) (fun _ _ _ _ _ => (pg_tupK K (n := 2) rfl (pgs_cons (pg_name (i := 4) sc_Desk_become.nd rfl (Or.inl rfl)) (pgs_cons (pg_tupK K (n := 2) rfl (pgs_cons (pg_name (i := 5) sc_Desk_become.nd rfl (Or.inl rfl)) (pgs_cons (pg_name (i := 6) sc_Desk_become.nd rfl (Or.inl rfl)) pgs_nil))) pgs_nil)))) (fun _ _ _ _ _ => pts_nil) (fun _ _ _ _ _ => (pv 4)) (fun _ _ _ _ _ => (pv 5))) rfl)
      (pss_one (ps_fld (pv 0) (pe_callTy (call_tuple_ofK K) (by rfl) T.m_tuple bt_tuple (pa_cons (pe_lc (own := [("_", 6), ("word", 7)]) rfl sc_Desk_become.nd (pi_seqK K (pv 3)) (blkOk_by (own := [("_", 6), ("word", 7)]) (N := N_Desk_become) (sc := defScope s_Desk_become) (by decide +kernel)) (fun _ _ _ _ _ => (pg_tupK K (n := 2) rfl (pgs_cons (pg_name (i := 6) sc_Desk_become.nd rfl (Or.inl rfl)) (pgs_cons (pg_name (i := 7) sc_Desk_become.nd rfl (Or.inl rfl)) pgs_nil)))) (fun _ _ _ _ _ => pts_nil) (fun _ _ _ _ _ => (pv 7))) pa_nil)) rfl))))))), ?_⟩
    obtain ⟨dx, vp, vw, ba, ea, vk, vr, xs, ys, rfl, h2, h3, h4, h5, h6⟩ := hd.ex
    have w : Ow F B0 H0 B H ((d, .ins CD dx (dkF vp vw m ba ea vk vr)) :: (ba, .lst xs) :: (ea, .lst ys) :: L) := w
    refine wo_asg (i := 3) (P := DD K (.list [])) w (ed_is (ed_lcD (K := K) (ds := []) (fun _ => true) (fun d => d) (ev_seqT (ed_var (i := 2) rfl hw')) (by decide) (fun _ => rfl) (fun d v Bd hd _ _ => nomatch hd) (fun d v Bd hd _ _ _ => nomatch hd)) rfl) fun vl B1 H1 w1 e1 hl => ?_
    refine wo_fld (P := InsP K CP (.int (n : Nat)) (.tuple rs')) w1 (Dx.ev_var (i := 1) rfl upc_ins (upc_ins _ _ _ e1 hp')) (fun H5 => lk_var rfl) T.cD T.n_pairs (by show 7 < 1000; decide) fun vp2 B2 H2 w2 e2 hp2 => ?_
    have w2 : Ow F B0 H0 B2 H2 ((d, .ins CD dx (dkF vp2 vw m ba ea vk vr)) :: (ba, .lst xs) :: (ea, .lst ys) :: L) := w2
    refine wo_fld (P := DD K (.tuple [])) w2 (ed_var (i := 2) rfl (hw'.up (e1.trans e2))) (fun H5 => lk_var rfl) T.cD T.n_watched (by show 7 < 1000; decide) fun vw2 B3 H3 w3 e3 hw3 => ?_
    have w3 : Ow F B0 H0 B3 H3 ((d, .ins CD dx (dkF vp2 vw2 m ba ea vk vr)) :: (ba, .lst xs) :: (ea, .lst ys) :: L) := w3
    refine wo_fld (P := DD K (.int (xs.length : Nat))) w3 (ev_lenO (K := K) (i := 0) (ba := ba) (xs := xs) rfl List.mem_cons_self T.cD T.n_before rfl (List.mem_cons_of_mem _ List.mem_cons_self)) (fun H5 => lk_var rfl) T.cD T.n_many (by show 7 < 1000; decide) fun vm B4 H4 w4 e4 hm4 => ?_
    obtain rfl := dd_int hm4
    have w4 : Ow F B0 H0 B4 H4 ((d, .ins CD dx (dkF vp2 vw2 xs.length ba ea vk vr)) :: (ba, .lst xs) :: (ea, .lst ys) :: L) := w4
    have e14 := (e2.trans e3).trans e4
    refine wo_fld (P := fun _ _ => True) w4 (ev_dcE (K := K) (i := 2) (j := 3) rfl rfl (hw'.up (e1.trans e14)) (hl.up e14)) (fun H5 => lk_var rfl) T.cD T.n_kept (by show 7 < 1000; decide) fun vk2 B5 H5 w5 e5 _ => ?_
    have w5 : Ow F B0 H0 B5 H5 ((d, .ins CD dx (dkF vp2 vw2 xs.length ba ea vk2 vr)) :: (ba, .lst xs) :: (ea, .lst ys) :: L) := w5
    refine wo_fldS (P := DD K (.tuple [])) w5 (ev_cb (eds_cons (ed_is (ed_lcP (K := K) (ds := []) (fun _ => true) (fun d => d) (ev_seqL (ed_var (i := 3) rfl (hl.up (e14.trans e5)))) (by decide) (fun d hd => nomatch hd) (fun _ _ => rfl) (fun _ _ _ _ _ hd _ _ _ => nomatch hd) (fun _ _ _ _ _ hd _ _ _ _ => nomatch hd)) rfl) eds_nil) rc_tupL) (fun H5 => lk_var rfl) T.cD T.n_report (by show 7 < 1000; decide) fun vr2 B6 H6 w6 e6 hr6 => ?_
    have w6 : Ow F B0 H0 B6 H6 ([(d, .ins CD dx (dkF vp2 vw2 xs.length ba ea vk2 vr2)), (ba, .lst xs), (ea, .lst ys)] ++ L) := w6
    have e26 := (e3.trans e4).trans (e5.trans e6)
    have eall := (e1.trans e2).trans e26
    refine q B6 H6 _ w6 eall ⟨dx, vp2, vw2, ba, ea, vk2, vr2, xs, ys, by rw [h5.len], upc_ins _ _ _ e26 hp2, hw3.up (e4.trans (e5.trans e6)), hr6, h5.up eall, h6.up eall⟩

end
end K50

namespace K50
open PySem PySem.Spec PyProof.Rows L2 Evl Ex Dx StX
open PySem.PyData (strOk)
section
variable {P : Program} {w : World} {K : PySem.W.Frag} {mg : Str → Option Value} {base : Heap} {f : Addr} {fd : FuncData}


/-! ### slices -/
theorem cut_to {α : Type} {xs : List α} {i : Int} (h0 : 0 ≤ i) (h1 : i ≤ (xs.length : Nat)) : cutL xs none (some i) = xs.take i.toNat := by
  have e : ((i.toNat : Nat) : Int) = i := by omega
  unfold cutL
  rw [← e, HT.sIx_nat, HT.sIx_none, List.drop_zero, Nat.sub_zero, Int.toNat_natCast, Nat.min_eq_left (by omega)]
theorem cut_from {α : Type} {xs : List α} {i : Int} (h0 : 0 ≤ i) (h1 : i ≤ (xs.length : Nat)) : cutL xs (some i) none = xs.drop i.toNat := by
  have e : ((i.toNat : Nat) : Int) = i := by omega
  unfold cutL
  rw [← e, HT.sIx_nat, HT.sIx_none, Int.toNat_natCast, Nat.min_eq_left (by omega), List.take_of_length_le]
  rw [List.length_drop]
  exact Nat.le_refl _
/-! ### what deeds lead to -/
inductive Oc
  | kept (rs : List PyData)
  | num (v : PyData)
  | rule (v : PyData)
  | alone
def putR (rs : List PyData) (i k : Nat) (rl : PyData) : List PyData := rs.take i ++ (rl :: rs.drop (i + k))
def editO (n : Nat) (new : List PyData) (rl : PyData) : Oc := if (backK (edges new) n).isSome = true then .rule rl else .kept new
def putO (n : Nat) (rs : List PyData) (pl rl : PyData) : Oc := if inB pl 0 (rs.length : Nat) = false then .num pl else if (!ruleD rl n || decide (12 ≤ rs.length)) = true then .rule rl else editO n (putR rs (numI pl).toNat 0 rl) rl
def turnO (n : Nat) (rs : List PyData) (pl rl : PyData) : Oc := if inB pl 0 ((rs.length : Nat) - 1) = false then .num pl else if (!ruleD rl n) = true then .rule rl else editO n (putR rs (numI pl).toNat 1 rl) rl
def takeO (rs : List PyData) (pl : PyData) : Oc := if inB pl 0 ((rs.length : Nat) - 1) = false then .num pl else if rs.length = 1 then .alone else .kept (rs.take (numI pl).toNat ++ rs.drop ((numI pl).toNat + 1))
structure Sn where
  F : Fm
  B0 : Hp
  H0 : Hp
  B : Hp
  L3 : List (Addr × HO)
  L : List (Addr × HO)
  n : Nat
  rs : List PyData
  bs : List (List PyData)
  es : List (List PyData)
  d : Addr
def Er (K : PySem.W.Frag) (S : Sn) (c : Addr) (f : Str) (v : PyData) (E : XK) : Prop := ∀ v' dd B' H1 H', Ow S.F S.B0 S.H0 B' H1 (S.L3 ++ S.L) → Ex S.B B' → Dd K B' v' v → Ex H1 H' → H' dd = some (.xd [(f, v')]) → E (.ref c) (some dd) H'
def Dn (K : PySem.W.Frag) (CP CD c0 cR cU : Addr) (S : Sn) (o : Oc) (Q : VK) (E : XK) : Prop := match o with
  | .kept new => ∀ B' H' L3', Ow S.F S.B0 S.H0 B' H' (L3' ++ S.L) → Ex S.B B' → DkD K CP CD S.n new (S.bs ++ [S.rs]) [] S.d L3' B' → Q .non H'
  | .num v => Er K S c0 "value" v E
  | .rule v => Er K S cR "value" v E
  | .alone => Er K S cU "what" (.str "alone") E
structure At3 (K : PySem.W.Frag) (CP CD : Addr) (S : Sn) (H : Hp) : Prop where
  w : Ow S.F S.B0 S.H0 S.B H (S.L3 ++ S.L)
  d : DkD K CP CD S.n S.rs S.bs S.es S.d S.L3 S.B
  lb : S.bs.length ≤ 1000
  le : S.es.length ≤ 1000
def spDo (K : PySem.W.Frag) (CP CD : Addr) : Sp := fun vs H Q _ => ∃ (S : Sn) (rs' : List PyData) (vp' vw' : V), vs = [.ref S.d, vp', vw'] ∧ At3 K CP CD S H ∧ InsP K CP (.int (S.n : Nat)) (.tuple rs') vp' S.B ∧ Dd K S.B vw' (.tuple []) ∧
  ∀ B' H' L3', Ow S.F S.B0 S.H0 B' H' (L3' ++ S.L) → Ex S.B B' → DkD K CP CD S.n rs' (S.bs ++ [S.rs]) [] S.d L3' B' → Q .non H'
def spUndo (K : PySem.W.Frag) (CP CD : Addr) : Sp := fun vs H Q _ => ∃ (S : Sn) (bs' : List (List PyData)) (r : List PyData), vs = [.ref S.d] ∧ At3 K CP CD S H ∧ S.bs = bs' ++ [r] ∧
  ∀ B' H' L3', Ow S.F S.B0 S.H0 B' H' (L3' ++ S.L) → Ex S.B B' → DkD K CP CD S.n r bs' (S.es ++ [S.rs]) S.d L3' B' → Q .non H'
def spRedo (K : PySem.W.Frag) (CP CD : Addr) : Sp := fun vs H Q _ => ∃ (S : Sn) (es' : List (List PyData)) (r : List PyData), vs = [.ref S.d] ∧ At3 K CP CD S H ∧ S.es = es' ++ [r] ∧
  ∀ B' H' L3', Ow S.F S.B0 S.H0 B' H' (L3' ++ S.L) → Ex S.B B' → DkD K CP CD S.n r (S.bs ++ [S.rs]) es' S.d L3' B' → Q .non H'
/-- a desk that stands, looked at only -/
structure StD (K : PySem.W.Frag) (CP CD : Addr) (F : Fm) (B : Hp) (n : Nat) (rs : List PyData) (bs es : List (List PyData)) (d : Addr) : Prop where
  ex : ∃ dx vp vw ba ea vk vr xs ys, (∀ H, F.J H → H d = some (.ins CD dx (dkF vp vw bs.length ba ea vk vr)) ∧ H ba = some (.lst xs) ∧ H ea = some (.lst ys)) ∧ InsP K CP (.int (n : Nat)) (.tuple rs) vp B ∧ Dd K B vw (.tuple []) ∧ Dd K B vr (.tuple []) ∧ xs.length = bs.length ∧ ys.length = es.length
theorem StD.up {F : Fm} {n : Nat} {rs : List PyData} {bs es : List (List PyData)} {d : Addr} {B B' : Hp} (h : StD K CP CD F B n rs bs es d) (e : Ex B B') : StD K CP CD F B' n rs bs es d := by
  obtain ⟨dx, vp, vw, ba, ea, vk, vr, xs, ys, h1, h2, h3, h4, h5, h6⟩ := h.ex
  exact ⟨dx, vp, vw, ba, ea, vk, vr, xs, ys, h1, upc_ins _ _ _ e h2, h3.up e, h4.up e, h5, h6⟩
theorem DkM.st {F : Fm} {n : Nat} {rs : List PyData} {bs es : List (List PyData)} {d : Addr} {L3 LL : List (Addr × HO)} {B : Hp} {hn : ∀ p ∈ LL, nT p.2} (h : DkD K CP CD n rs bs es d L3 B) (hs : ∀ p ∈ L3, p ∈ LL) : StD K CP CD (F.wL LL hn) B n rs bs es d := by
  obtain ⟨dx, vp, vw, ba, ea, vk, vr, xs, ys, rfl, h2, h3, h4, h5, h6⟩ := h.ex
  exact ⟨dx, vp, vw, ba, ea, vk, vr, xs, ys, fun H j => ⟨j.2 _ (hs _ List.mem_cons_self), j.2 (ba, .lst xs) (hs _ (List.mem_cons_of_mem _ List.mem_cons_self)), j.2 (ea, .lst ys) (hs _ (List.mem_cons_of_mem _ (List.mem_cons_of_mem _ List.mem_cons_self)))⟩, h2, h3, h4, h5.len, h6.len⟩
theorem ev_stP {F : Fm} {σ : L2.St} {B : Hp} {i : Nat} {a C dx : Addr} {fs : List (Str × V)} {f : Str} {v : V} {P : PV} (hi : σ[i]? = some (some (.ref a))) (hJ : ∀ H, F.J H → H a = some (.ins C dx fs)) (c : Cls K C) (n : NoAttr K C f) (l : fs.lookup f = some v) (hu : Upc P) (hp : P v B) : EV F (tFld K (tVar i) f) σ B P := fun B1 e1 H1 j1 Q1 q1 =>
  ⟨.ref a, hi, a, C, dx, fs, v, rfl, hJ _ j1.j, c, n, l, q1 v B1 H1 (Step.refl j1.e) j1 (hu _ _ _ e1 hp)⟩
theorem ev_stL {F : Fm} {σ : L2.St} {B : Hp} {i : Nat} {a C dx ba : Addr} {fs : List (Str × V)} {f : Str} {xs : List V} (hi : σ[i]? = some (some (.ref a))) (hJ : ∀ H, F.J H → H a = some (.ins C dx fs)) (c : Cls K C) (n : NoAttr K C f) (l : fs.lookup f = some (.ref ba)) (hb : ∀ H, F.J H → H ba = some (.lst xs)) : ED F K (tCB (rLnK K) (tCons (tFld K (tVar i) f) tNil)) σ B (.int (xs.length : Nat)) := fun B1 e1 H1 j1 Q1 q1 =>
  ⟨.ref a, hi, a, C, dx, fs, .ref ba, rfl, hJ _ j1.j, c, n, l, .ref ba, xs.length, rfl, .inl ⟨xs, sq_of (hb _ j1.j), rfl⟩, q1 _ B1 H1 (Step.refl j1.e) j1 (.int _)⟩
def spRep (K : PySem.W.Frag) (CP CD : Addr) : Sp := fun vs H Q _ => ∃ (F : Fm) (B : Hp) (n : Nat) (rs : List PyData) (bs es : List (List PyData)) (d : Addr), vs = [.ref d] ∧ Ok F B H ∧ StD K CP CD F B n rs bs es d ∧ ∀ v, Dd K B v (.tuple []) → Q v H
def spNow (K : PySem.W.Frag) (CP CD : Addr) : Sp := fun vs H Q _ => ∃ (F : Fm) (B : Hp) (n : Nat) (rs : List PyData) (bs es : List (List PyData)) (d : Addr), vs = [.ref d] ∧ Ok F B H ∧ StD K CP CD F B n rs bs es d ∧ ∀ v B' H', Step F.M B H B' H' → Ok F B' H' → Dd K B' v (.tuple [.int (n : Nat), .tuple rs]) → Q v H'
section
variable {F : Fm} {L : List (Addr × HO)} {hn : ∀ p ∈ L, nT p.2} {σ : L2.St} {B B0 H0 H : Hp} {i n : Nat} {d C dx na : Addr} {fs : List (Str × V)} {xs : List V} {vp vw : V} {rs : List PyData} {to : TE} {t : Addr} {x y : V} {p1 p2 : Nat} {tz : L2.TS} {D : Ends}
theorem ev_bp (hi : σ[i]? = some (some (.ref d))) (hm : (d, HO.ins C dx fs) ∈ L) (c : Cls K C) (n1 : NoAttr K C "pairs") (n2 : NoAttr K C "watched") (l1 : fs.lookup ("pairs" : Str) = some vp) (l2 : fs.lookup ("watched" : Str) = some vw) (hp : InsP K CP (.int (n : Nat)) (.tuple rs) vp B) (hw : Dd K B vw (.tuple [])) : EV (F.wL L hn) (tTup (tCons (tFld K (tVar i) "pairs") (tCons (tFld K (tVar i) "watched") tNil))) σ B (fun v B => BP K CP n rs B v) := fun B1 e1 H1 j1 Q1 q1 =>
  ⟨.ref d, hi, d, C, dx, fs, vp, rfl, j1.j.2 _ hm, c, n1, l1, .ref d, hi, d, C, dx, fs, vw, rfl, j1.j.2 _ hm, c, n2, l2, by show 2 ≤ sizeLine; decide, fun p hp2 => q1 (.ref p) (upd B1 p (.tup [vp, vw])) _ (Step.alloc j1.e hp2) (j1.alloc hp2) ⟨p, vp, vw, rfl, upd_same, upc_ins _ _ _ (e1.trans (Ex.new (fresh_back j1.e hp2))) hp, hw.up (e1.trans (Ex.new (fresh_back j1.e hp2)))⟩⟩
theorem wo_popP (w : Ow F B0 H0 B H ((na, .lst (xs ++ [.ref t])) :: L)) (ho : Lk to σ H (.ref na)) (ht : B t = some (.tup [x, y])) (q : ∀ H5, Ow F B0 H0 B H5 ((na, .lst xs) :: L) → tz D ((σ.set p1 (some x)).set p2 (some y)) H5) : tSeq (tAsg (tBM0 K "list" rPop to) (gTup K 2 (gCons (gName p1) (gCons (gName p2) gNil)))) tz D σ H := by
  have w1 := w.set (.lst xs) trivial
  refine ho _ ⟨.inl ⟨rfl, _, sq_of w.here⟩, na, _, .ref t, rfl, rfl, w.here, by rw [List.length_append]; simp, ?_⟩
  rw [List.dropLast_concat]
  exact ⟨t, _, rfl, (ta_of (w1.k.e _ _ ht)).sq, rfl, _, _, rfl, _, _, rfl, rfl, q _ w1⟩
end
theorem perm4 {α : Type} (a b c e : α) (L : List α) : (e :: a :: c :: b :: L).Perm (a :: b :: c :: e :: L) := (List.Perm.swap a e _).trans (List.Perm.cons a ((List.Perm.swap c e _).trans ((List.Perm.cons c (List.Perm.swap b e _)).trans (List.Perm.swap b c _))))

abbrev s_Desk_do : Stmt := inClass (topS 102) 14
abbrev N_Desk_do : List Str := ["self", "pairs", "watched"]
theorem sc_Desk_do : FnScope N_Desk_do ["self", "pairs", "watched"] (defScope s_Desk_do) := ⟨rfl, rfl, rfl, by decide +kernel, rfl, by decide +kernel, by decide +kernel⟩
theorem ok_do (F : Fun K "_do" "Desk._do" s_Desk_do f fd) (T : TK P w K mg base c0 c1 c2 CP cR cU cN CD) (M__become : Mt.MethX P w K mg base CX0 CD "_become" 2 ["self", "pairs", "watched"] (spBec K CP CD)) : FnOk P w K mg base CX0 3 f fd ["self", "pairs", "watched"] (spDo K CP CD) := by
  refine F.ok sc_Desk_do (fun vs H Q E h => ?_) (fun cdv A outer s H vs Q E hr h => ?_)
  · obtain ⟨S, rs', vp', vw', rfl, _⟩ := h
    rfl
  · obtain ⟨⟨F, B0, H0, B, L3, L, n, rs, bs, es, d⟩, rs', vp', vw', rfl, ⟨w, hd, lb, le⟩, hp', hw', q⟩ := h
    refine ⟨_, (pss_cons (ps_expr (pe_bm PySem.F.plainAttrs_list PySem.F.slot_list_append PySem.F.type_list_append mt_append (pe_fldK K (pv 0)) (pa_cons (pe_tup (pa_cons (pe_fldK K (pv 0)) (pa_cons (pe_fldK K (pv 0)) pa_nil))) pa_nil)))
      (pss_cons (ps_fld (pv 0) (pe_lst pa_nil) rfl)
      (pss_one (ps_expr (Mt.pe_methX M__become T.cD (hr.mono (by decide)) pass0S (pv 0) (pa_cons (pv 1) (pa_cons (pv 2) pa_nil))))))), ?_⟩
    obtain ⟨dx, vp, vw, ba, ea, vk, vr, xs, ys, e3, h2, h3, h4, h5, h6⟩ := hd.ex
    dsimp only at e3 h2 h3 h4 h5 h6 w hp' hw' q lb le
    subst e3
    have w : Ow F B0 H0 B H ((d, .ins CD dx (dkF vp vw bs.length ba ea vk vr)) :: (ba, .lst xs) :: (ea, .lst ys) :: L) := w
    refine wo_app (P := fun v B => BP K CP n rs B v) w.swap (lk_fld (lk_var rfl) w.here T.cD T.n_before rfl) (ev_bp (i := 0) (d := d) rfl (List.mem_cons_of_mem _ List.mem_cons_self) T.cD T.n_pairs T.n_watched rfl rfl h2 h3) (by have := h5.len; omega) fun v1 B1 H1 w1 e1 hb1 => ?_
    refine wo_fldL w1.swap (fun H5 => lk_var rfl) T.cD T.n_behind (by show 7 < 1000; decide) fun na w2 => ?_
    have w2 : Ow F B0 H0 B1 _ ((d, .ins CD dx (dkF vp vw bs.length ba na vk vr)) :: (na, .lst []) :: (ba, .lst (xs ++ [v1])) :: (ea, .lst ys) :: L) := w2
    have w3 := ow_tail (w2.perm (perm4 (d, HO.ins CD dx (dkF vp vw bs.length ba na vk vr)) (na, HO.lst []) (ba, HO.lst (xs ++ [v1])) (ea, HO.lst ys) L))
    refine ⟨.ref d, rfl, d, dx, _, rfl, w3.here, rfl, vp', rfl, vw', rfl, F, B0, H0, B1, [(d, .ins CD dx (dkF vp vw bs.length ba na vk vr)), (ba, .lst (xs ++ [v1])), (na, .lst [])], L, n, bs.length, rs, rs', bs ++ [rs], [], d, vp', vw', rfl, w3, ⟨dx, vp, vw, ba, na, vk, vr, _, _, rfl, upc_ins _ _ _ e1 h2, h3.up e1, h4.up e1, (h5.up e1).snoc hb1, .nil⟩, upc_ins _ _ _ e1 hp', hw'.up e1, fun B' H' L3' w' e' d' => ?_⟩
    exact q B' H' L3' w' (e1.trans e') d'

end
end K50

namespace K50
open PySem PySem.Spec PyProof.Rows L2 Evl Ex Dx StX
open PySem.PyData (strOk)
section
variable {P : Program} {w : World} {K : PySem.W.Frag} {mg : Str → Option Value} {base : Heap} {f : Addr} {fd : FuncData}


/-! ### undo, redo, report -/
theorem perm3 {α : Type} (a b c : α) (L : List α) : (c :: a :: b :: L).Perm (a :: b :: c :: L) := (List.Perm.swap a c _).trans (List.Perm.cons a (List.Perm.swap b c _))
theorem perm3' {α : Type} (a b c : α) (L : List α) : (a :: b :: c :: L).Perm (c :: a :: b :: L) := (perm3 a b c L).symm
theorem perm3r {α : Type} (a b c : α) (L : List α) : (c :: b :: a :: L).Perm (a :: b :: c :: L) := (List.Perm.cons c (List.Perm.swap a b _)).trans (perm3 a b c L)

abbrev s_Desk_undo : Stmt := inClass (topS 102) 6
abbrev N_Desk_undo : List Str := ["self", "pairs", "watched"]
theorem sc_Desk_undo : FnScope N_Desk_undo ["self"] (defScope s_Desk_undo) := ⟨rfl, rfl, rfl, by decide +kernel, rfl, by decide +kernel, by decide +kernel⟩
theorem ok_undo (F : Fun K "undo" "Desk.undo" s_Desk_undo f fd) (T : TK P w K mg base c0 c1 c2 CP cR cU cN CD) (M__become : Mt.MethX P w K mg base CX0 CD "_become" 2 ["self", "pairs", "watched"] (spBec K CP CD)) : FnOk P w K mg base (L2.CX P w) 3 f fd ["self"] (spUndo K CP CD) := by
  refine F.okX sc_Desk_undo (fun vs H Q E h => ?_) (fun cdv A outer s H vs Q E hr h => ?_)
  · obtain ⟨S, rs', r, rfl, _⟩ := h
    rfl
  · obtain ⟨⟨F, B0, H0, B, L3, L, n, rs, bs, es, d⟩, qs, r, rfl, ⟨w, hd, lb, le⟩, hx, q⟩ := h
    have hu64 : (A.deeper (envOfC "Desk.undo" (defScope s_Desk_undo) s.heap.objs.size f cdv)).units + 64 < cLine := hr.units
    refine ⟨_, (pss_cons (ps_if (pt_cmpR (op_eqDK K hu64) (pe_callB (call_lenK K) (by rfl) T.m_len bt_len (pa_cons (pe_fldK K (pv 0)) pa_nil)) pe_int (nomark _)) (pss_one (ps_raise rfl (takes_of rfl rfl rfl rfl) (pmk_E T.x_NothingToUndo (hr.mono (by decide)) rfl (pa_cons pe_str pa_nil)))) pss_nil)
      (pss_cons (ps_expr (pe_bm PySem.F.plainAttrs_list PySem.F.slot_list_append PySem.F.type_list_append mt_append (pe_fldK K (pv 0)) (pa_cons (pe_tup (pa_cons (pe_fldK K (pv 0)) (pa_cons (pe_fldK K (pv 0)) pa_nil))) pa_nil)))
      (pss_cons (ps_asg (pe_bm0 PySem.F.plainAttrs_list PySem.F.slot_list_pop PySem.F.type_list_pop mt_pop (pe_fldK K (pv 0))) (pg_tupK K (n := 2) rfl (pgs_cons (pg_name (i := 1) sc_Desk_undo.nd rfl (Or.inl rfl)) (pgs_cons (pg_name (i := 2) sc_Desk_undo.nd rfl (Or.inl rfl)) pgs_nil))))
      (pss_one (ps_expr (Mt.pe_methX M__become T.cD (hr.mono (by decide)) pass0S (pv 0) (pa_cons (pv 1) (pa_cons (pv 2) pa_nil)))))))), ?_⟩
    obtain ⟨dx, vp, vw, ba, ea, vk, vr, xs, ys, e3, h2, h3, h4, h5, h6⟩ := hd.ex
    dsimp only at e3 h2 h3 h4 h5 h6 w hx q lb le
    subst e3
    rw [hx] at h5
    obtain ⟨zs, v0, rfl, hxs, t, vx, vw0, rfl, ht, hpx, hwx⟩ := h5.unsnoc
    have w : Ow F B0 H0 B H ((d, .ins CD dx (dkF vp vw bs.length ba ea vk vr)) :: (ba, .lst (zs ++ [.ref t])) :: (ea, .lst ys) :: L) := w
    refine wo_when (b := false) w (et_is (et_cmp (ed_op (ev_lenO (K := K) (i := 0) (ba := ba) (xs := zs ++ [.ref t]) rfl List.mem_cons_self T.cD T.n_before rfl (List.mem_cons_of_mem _ List.mem_cons_self)) ed_int (rd_eqD rfl rfl))) (by rw [eqv_int, List.length_append]; exact beq_eq_false_iff_ne.mpr (by show ((zs.length + 1 : Nat) : Int) ≠ 0; omega))) (fun h => nomatch h) (fun _ B1 H1 w1 e1 => ?_)
    have w1p : Ow F B0 H0 B1 H1 ((ea, .lst ys) :: (d, .ins CD dx (dkF vp vw bs.length ba ea vk vr)) :: (ba, .lst (zs ++ [.ref t])) :: L) := w1.perm (perm3 (d, HO.ins CD dx (dkF vp vw bs.length ba ea vk vr)) (ba, HO.lst (zs ++ [.ref t])) (ea, HO.lst ys) L)
    refine wo_app (P := fun v B => BP K CP n rs B v) w1p (lk_fld (lk_var rfl) w1.here T.cD T.n_behind rfl) (ev_bp (i := 0) (d := d) (dx := dx) (fs := dkF vp vw bs.length ba ea vk vr) rfl (List.mem_cons_of_mem _ List.mem_cons_self) T.cD T.n_pairs T.n_watched rfl rfl (upc_ins _ _ _ e1 h2) (h3.up e1)) (by have := h6.len; omega) fun v1 B2 H2 w2 e2 hb1 => ?_
    have hd2 : H2 d = some (.ins CD dx (dkF vp vw bs.length ba ea vk vr)) := (w2.ow (d, _) (List.mem_cons_of_mem _ List.mem_cons_self)).2.2.2.1
    have w2p : Ow F B0 H0 B2 H2 ((ba, .lst (zs ++ [.ref t])) :: (ea, .lst (ys ++ [v1])) :: (d, .ins CD dx (dkF vp vw bs.length ba ea vk vr)) :: L) := w2.perm (perm3 (ea, HO.lst (ys ++ [v1])) (d, HO.ins CD dx (dkF vp vw bs.length ba ea vk vr)) (ba, HO.lst (zs ++ [.ref t])) L)
    have e12 := e1.trans e2
    refine wo_popP (p1 := 1) (p2 := 2) w2p (lk_fld (lk_var rfl) hd2 T.cD T.n_before rfl) (e12 _ _ ht) fun H3 w3 => ?_
    have w4 : Ow F B0 H0 B2 H3 ((d, .ins CD dx (dkF vp vw bs.length ba ea vk vr)) :: (ba, .lst zs) :: (ea, .lst (ys ++ [v1])) :: L) := w3.perm (perm3 (ba, HO.lst zs) (ea, HO.lst (ys ++ [v1])) (d, HO.ins CD dx (dkF vp vw bs.length ba ea vk vr)) L)
    refine ⟨.ref d, rfl, d, dx, _, rfl, w4.here, rfl, vx, rfl, vw0, rfl, F, B0, H0, B2, [(d, .ins CD dx (dkF vp vw bs.length ba ea vk vr)), (ba, .lst zs), (ea, .lst (ys ++ [v1]))], L, n, bs.length, rs, r, qs, (es ++ [rs]), d, vx, vw0, rfl, w4, ⟨dx, vp, vw, ba, ea, vk, vr, _, _, rfl, upc_ins _ _ _ e12 h2, h3.up e12, h4.up e12, hxs.up e12, (h6.up e12).snoc hb1⟩, upc_ins _ _ _ e12 hpx, hwx.up e12, fun B' H' L3' w' e' d' => ?_⟩
    exact q B' H' L3' w' (e12.trans e') d'

abbrev s_Desk_redo : Stmt := inClass (topS 102) 7
abbrev N_Desk_redo : List Str := ["self", "pairs", "watched"]
theorem sc_Desk_redo : FnScope N_Desk_redo ["self"] (defScope s_Desk_redo) := ⟨rfl, rfl, rfl, by decide +kernel, rfl, by decide +kernel, by decide +kernel⟩
theorem ok_redo (F : Fun K "redo" "Desk.redo" s_Desk_redo f fd) (T : TK P w K mg base c0 c1 c2 CP cR cU cN CD) (M__become : Mt.MethX P w K mg base CX0 CD "_become" 2 ["self", "pairs", "watched"] (spBec K CP CD)) : FnOk P w K mg base (L2.CX P w) 3 f fd ["self"] (spRedo K CP CD) := by
  refine F.okX sc_Desk_redo (fun vs H Q E h => ?_) (fun cdv A outer s H vs Q E hr h => ?_)
  · obtain ⟨S, rs', r, rfl, _⟩ := h
    rfl
  · obtain ⟨⟨F, B0, H0, B, L3, L, n, rs, bs, es, d⟩, qs, r, rfl, ⟨w, hd, lb, le⟩, hx, q⟩ := h
    have hu64 : (A.deeper (envOfC "Desk.redo" (defScope s_Desk_redo) s.heap.objs.size f cdv)).units + 64 < cLine := hr.units
    refine ⟨_, (pss_cons (ps_if (pt_cmpR (op_eqDK K hu64) (pe_callB (call_lenK K) (by rfl) T.m_len bt_len (pa_cons (pe_fldK K (pv 0)) pa_nil)) pe_int (nomark _)) (pss_one (ps_raise rfl (takes_of rfl rfl rfl rfl) (pmk_E T.x_NothingToUndo (hr.mono (by decide)) rfl (pa_cons pe_str pa_nil)))) pss_nil)
      (pss_cons (ps_expr (pe_bm PySem.F.plainAttrs_list PySem.F.slot_list_append PySem.F.type_list_append mt_append (pe_fldK K (pv 0)) (pa_cons (pe_tup (pa_cons (pe_fldK K (pv 0)) (pa_cons (pe_fldK K (pv 0)) pa_nil))) pa_nil)))
      (pss_cons (ps_asg (pe_bm0 PySem.F.plainAttrs_list PySem.F.slot_list_pop PySem.F.type_list_pop mt_pop (pe_fldK K (pv 0))) (pg_tupK K (n := 2) rfl (pgs_cons (pg_name (i := 1) sc_Desk_redo.nd rfl (Or.inl rfl)) (pgs_cons (pg_name (i := 2) sc_Desk_redo.nd rfl (Or.inl rfl)) pgs_nil))))
      (pss_one (ps_expr (Mt.pe_methX M__become T.cD (hr.mono (by decide)) pass0S (pv 0) (pa_cons (pv 1) (pa_cons (pv 2) pa_nil)))))))), ?_⟩
    obtain ⟨dx, vp, vw, ba, ea, vk, vr, xs, ys, e3, h2, h3, h4, h5, h6⟩ := hd.ex
    dsimp only at e3 h2 h3 h4 h5 h6 w hx q lb le
    subst e3
    rw [hx] at h6
    obtain ⟨zs, v0, rfl, hxs, t, vx, vw0, rfl, ht, hpx, hwx⟩ := h6.unsnoc
    have w : Ow F B0 H0 B H ((d, .ins CD dx (dkF vp vw bs.length ba ea vk vr)) :: (ba, .lst xs) :: (ea, .lst (zs ++ [.ref t])) :: L) := w
    refine wo_when (b := false) w (et_is (et_cmp (ed_op (ev_lenO (K := K) (i := 0) (ba := ea) (xs := zs ++ [.ref t]) rfl List.mem_cons_self T.cD T.n_behind rfl (List.mem_cons_of_mem _ (List.mem_cons_of_mem _ List.mem_cons_self))) ed_int (rd_eqD rfl rfl))) (by rw [eqv_int, List.length_append]; exact beq_eq_false_iff_ne.mpr (by show ((zs.length + 1 : Nat) : Int) ≠ 0; omega))) (fun h => nomatch h) (fun _ B1 H1 w1 e1 => ?_)
    have w1p : Ow F B0 H0 B1 H1 ((ba, .lst xs) :: (d, .ins CD dx (dkF vp vw bs.length ba ea vk vr)) :: (ea, .lst (zs ++ [.ref t])) :: L) := w1.perm (List.Perm.swap (d, HO.ins CD dx (dkF vp vw bs.length ba ea vk vr)) (ba, HO.lst xs) _)
    refine wo_app (P := fun v B => BP K CP n rs B v) w1p (lk_fld (lk_var rfl) w1.here T.cD T.n_before rfl) (ev_bp (i := 0) (d := d) (dx := dx) (fs := dkF vp vw bs.length ba ea vk vr) rfl (List.mem_cons_of_mem _ List.mem_cons_self) T.cD T.n_pairs T.n_watched rfl rfl (upc_ins _ _ _ e1 h2) (h3.up e1)) (by have := h5.len; omega) fun v1 B2 H2 w2 e2 hb1 => ?_
    have hd2 : H2 d = some (.ins CD dx (dkF vp vw bs.length ba ea vk vr)) := (w2.ow (d, _) (List.mem_cons_of_mem _ List.mem_cons_self)).2.2.2.1
    have w2p : Ow F B0 H0 B2 H2 ((ea, .lst (zs ++ [.ref t])) :: (ba, .lst (xs ++ [v1])) :: (d, .ins CD dx (dkF vp vw bs.length ba ea vk vr)) :: L) := w2.perm (perm3 (ba, HO.lst (xs ++ [v1])) (d, HO.ins CD dx (dkF vp vw bs.length ba ea vk vr)) (ea, HO.lst (zs ++ [.ref t])) L)
    have e12 := e1.trans e2
    refine wo_popP (p1 := 1) (p2 := 2) w2p (lk_fld (lk_var rfl) hd2 T.cD T.n_behind rfl) (e12 _ _ ht) fun H3 w3 => ?_
    have w4 : Ow F B0 H0 B2 H3 ((d, .ins CD dx (dkF vp vw bs.length ba ea vk vr)) :: (ba, .lst (xs ++ [v1])) :: (ea, .lst zs) :: L) := w3.perm (perm3r (ea, HO.lst zs) (ba, HO.lst (xs ++ [v1])) (d, HO.ins CD dx (dkF vp vw bs.length ba ea vk vr)) L)
    refine ⟨.ref d, rfl, d, dx, _, rfl, w4.here, rfl, vx, rfl, vw0, rfl, F, B0, H0, B2, [(d, .ins CD dx (dkF vp vw bs.length ba ea vk vr)), (ba, .lst (xs ++ [v1])), (ea, .lst zs)], L, n, bs.length, rs, r, (bs ++ [rs]), qs, d, vx, vw0, rfl, w4, ⟨dx, vp, vw, ba, ea, vk, vr, _, _, rfl, upc_ins _ _ _ e12 h2, h3.up e12, h4.up e12, (h5.up e12).snoc hb1, hxs.up e12⟩, upc_ins _ _ _ e12 hpx, hwx.up e12, fun B' H' L3' w' e' d' => ?_⟩
    exact q B' H' L3' w' (e12.trans e') d'

abbrev s_Desk_report : Stmt := inClass (topS 102) 10
abbrev N_Desk_report : List Str := ["self"]
theorem sc_Desk_report : FnScope N_Desk_report ["self"] (defScope s_Desk_report) := ⟨rfl, rfl, rfl, by decide +kernel, rfl, by decide +kernel, by decide +kernel⟩
theorem ok_report (F : Fun K "report" "Desk.report" s_Desk_report f fd) (T : TK P w K mg base c0 c1 c2 CP cR cU cN CD) : FnOk P w K mg base CX0 1 f fd ["self"] (spRep K CP CD) := by
  refine F.ok sc_Desk_report (fun vs H Q E h => ?_) (fun cdv A outer s H vs Q E hr h => ?_)
  · obtain ⟨F, B, n, rs, bs, es, d, rfl, _⟩ := h
    rfl
  · obtain ⟨F, B, n, rs, bs, es, d, rfl, k, st, q⟩ := h
    refine ⟨_, (pss_one (ps_ret (pe_fldK K (pv 0)))), ?_⟩
    obtain ⟨dx, vp, vw, ba, ea, vk, vr, xs, ys, h1, h2, h3, h4, h5, h6⟩ := st.ex
    exact ⟨.ref d, rfl, d, CD, dx, _, vr, rfl, (h1 H k.j).1, T.cD, T.n_report, rfl, q vr h4⟩

end
end K50

namespace K50
open PySem PySem.Spec PyProof.Rows L2 Evl Ex Dx StX
open PySem.PyData (strOk)
section
variable {P : Program} {w : World} {K : PySem.W.Frag} {mg : Str → Option Value} {base : Heap} {f : Addr} {fd : FuncData}


/-! ### a new desk -/
def spDin (K : PySem.W.Frag) (CP CD : Addr) : Sp := fun vs H Q _ => ∃ (F : Fm) (B0 H0 B : Hp) (L : List (Addr × HO)) (x dx : Addr) (n : Nat) (rs : List PyData) (vp : V), vs = [.ref x, vp] ∧ Ow F B0 H0 B H ((x, .ins CD dx []) :: L) ∧ InsP K CP (.int (n : Nat)) (.tuple rs) vp B ∧ ∀ B' H' L3', Ow F B0 H0 B' H' (L3' ++ L) → Ex B B' → DkD K CP CD n rs [] [] x L3' B' → Q .non H'
theorem ev_dnewT {F : Fm} {σ : L2.St} {B : Hp} : EV F tDNewT σ B (fun _ _ => True) := fun B1 e1 H1 j1 Q1 q1 => fun p hp => q1 (.ref p) _ _ (Step.alloc j1.e hp) (j1.alloc hp) trivial

abbrev s_Desk_init : Stmt := inClass (topS 102) 0
abbrev N_Desk_init : List Str := ["self", "pairs"]
theorem sc_Desk_init : FnScope N_Desk_init ["self", "pairs"] (defScope s_Desk_init) := ⟨rfl, rfl, rfl, by decide +kernel, rfl, by decide +kernel, by decide +kernel⟩
theorem ok_desk (F : Fun K "__init__" "Desk.__init__" s_Desk_init f fd) (T : TK P w K mg base c0 c1 c2 CP cR cU cN CD) : FnOk P w K mg base CX0 1 f fd ["self", "pairs"] (spDin K CP CD) := by
  refine F.ok sc_Desk_init (fun vs H Q E h => ?_) (fun cdv A outer s H vs Q E hr h => ?_)
  · obtain ⟨F, B0, H0, B, L, x, dx, n, rs, vp, rfl, _⟩ := h
    rfl
  · obtain ⟨F, B0, H0, B, L, x, dx, n, rs, vp, rfl, w, hp, q⟩ := h
    refine ⟨_, (pss_cons (ps_fld (pv 0) (pv 1) rfl)
      (pss_cons (ps_fld (pv 0) (pe_tup pa_nil) rfl)
      (pss_cons (ps_fld (pv 0) pe_int rfl)
      (pss_cons (ps_fld (pv 0) (pe_lst pa_nil) rfl)
      (pss_cons (ps_fld (pv 0) (pe_lst pa_nil) rfl)
      (pss_cons (ps_fld (pv 0) pe_dnewT rfl)
      (pss_one (ps_fld (pv 0) (pe_tup pa_nil) rfl)))))))), ?_⟩
    refine wo_fld (P := InsP K CP (.int (n : Nat)) (.tuple rs)) w (Dx.ev_var (i := 1) rfl upc_ins hp) (fun H5 => lk_var rfl) T.cD T.n_pairs (by show 0 < 1000; decide) fun vp2 B1 H1 w1 e1 hp2 => ?_
    refine wo_fld (P := DD K (.tuple [])) w1 (ed_tup eds_nil) (fun H5 => lk_var rfl) T.cD T.n_watched (by show 1 < 1000; decide) fun vw B2 H2 w2 e2 hw => ?_
    refine wo_fld (P := DD K (.int 0)) w2 (ed_int (i := 0)) (fun H5 => lk_var rfl) T.cD T.n_many (by show 2 < 1000; decide) fun vm B3 H3 w3 e3 hm => ?_
    obtain rfl := dd_int hm
    refine wo_fldL w3 (fun H5 => lk_var rfl) T.cD T.n_before (by show 3 < 1000; decide) fun ba w4 => ?_
    refine wo_fldL w4 (fun H5 => lk_var rfl) T.cD T.n_behind (by show 4 < 1000; decide) fun ea w5 => ?_
    refine wo_fld (P := fun _ _ => True) w5 ev_dnewT (fun H5 => lk_var rfl) T.cD T.n_kept (by show 5 < 1000; decide) fun vk B6 H6 w6 e6 _ => ?_
    refine wo_fldS (P := DD K (.tuple [])) w6 (ed_tup eds_nil) (fun H5 => lk_var rfl) T.cD T.n_report (by show 6 < 1000; decide) fun vr B7 H7 w7 e7 hr7 => ?_
    have w8 : Ow F B0 H0 B7 _ ([(x, .ins CD dx (dkF vp2 vw 0 ba ea vk vr)), (ba, .lst []), (ea, .lst [])] ++ L) := w7.perm (List.Perm.cons _ (List.Perm.swap _ _ _))
    have e37 := e3.trans (e6.trans e7)
    exact q B7 _ _ w8 ((e1.trans e2).trans e37) ⟨dx, vp2, vw, ba, ea, vk, vr, [], [], rfl, upc_ins _ _ _ (e2.trans e37) hp2, hw.up e37, hr7, .nil, .nil⟩


/-! ### _edit -/
def spEdit (K : PySem.W.Frag) (CP CD c0 cR cU : Addr) : Sp := fun vs H Q E => ∃ (S : Sn) (vr vl : V) (new : List PyData) (rl : PyData), vs = [.ref S.d, vr, vl] ∧ At3 K CP CD S H ∧ (1 ≤ S.n ∧ S.n ≤ 8) ∧ Dd K S.B vr (.tuple new) ∧ (1 ≤ new.length ∧ new.length ≤ 90) ∧ (∀ r ∈ new, ruleD r S.n = true) ∧ Dd K S.B vl rl ∧ Dn K CP CD c0 cR cU S (editO S.n new rl) Q E
variable {fI : Addr} {fdI : FuncData}
theorem kept_of {n : Nat} {rs : List PyData} (n1 : 1 ≤ n) (n8 : n ≤ 8) (l1 : 1 ≤ rs.length) (l9 : rs.length ≤ 90) (h : ∀ r ∈ rs, ruleD r n = true) (hb : backK (edges rs) n = none) : dueD (.int (n : Nat)) (.tuple rs) = .tuple [.str "kept", .int (n : Nat), .tuple rs] := by
  have hr : rulesD (.tuple rs) n = true := by
    rw [rulesD_tup, decide_eq_true (show (1 : Int) ≤ (rs.length : Nat) by omega), decide_eq_true (show ((rs.length : Nat) : Int) ≤ 90 by omega), List.all_eq_true.mpr h]
    rfl
  rw [due_back (n := (n : Nat)) ⟨by omega, by omega⟩ hr]
  have hb' : backK (edges rs) ((n : Int)).toNat = none := hb
  rw [hb']

abbrev s_Desk_edit : Stmt := inClass (topS 102) 13
abbrev N_Desk_edit : List Str := ["self", "rules", "rule"]
theorem sc_Desk_edit : FnScope N_Desk_edit ["self", "rules", "rule"] (defScope s_Desk_edit) := ⟨rfl, rfl, rfl, by decide +kernel, rfl, by decide +kernel, by decide +kernel⟩
theorem ok_edit (F : Fun K "_edit" "Desk._edit" s_Desk_edit f fd) (T : TK P w K mg base c0 c1 c2 CP cR cU cN CD) (C_endless_kind : Callee P w K mg base "endless_kind" 2 ["steps"] (spEK K)) (C_steps_of : Callee P w K mg base "steps_of" 1 ["kinds", "rules"] (spF K preS fSteps)) (M_Pairs : Mk K CP fI) (G_Pairs : FnOk P w K mg base (L2.CX P w) 5 fI fdI ["self", "kinds", "rules"] (spPairs K CP c0 c1 c2)) (B_Pairs : L2.Binds K fdI ["self", "kinds", "rules"] []) (M__do : Mt.MethX P w K mg base CX0 CD "_do" 3 ["self", "pairs", "watched"] (spDo K CP CD)) : FnOk P w K mg base (L2.CX P w) 7 f fd ["self", "rules", "rule"] (spEdit K CP CD c0 cR cU) := by
  refine F.okX sc_Desk_edit (fun vs H Q E h => ?_) (fun cdv A outer s H vs Q E hr h => ?_)
  · obtain ⟨S, vr, vl, new, rl, rfl, _⟩ := h
    rfl
  · obtain ⟨⟨F, B0, H0, B, L3, L, n, rs, bs, es, d⟩, vn, vl, new, rl, rfl, ⟨w, hd, lb, le⟩, ⟨n1, n8⟩, hn, ⟨l1, l90⟩, hall, hl, q⟩ := h
    have hu64 : (A.deeper (envOfC "Desk._edit" (defScope s_Desk_edit) s.heap.objs.size f cdv)).units + 64 < cLine := hr.units
    refine ⟨_, (pss_cons (ps_if (pt_cmpR op_notN (pe_callC C_endless_kind (hr.mono (by decide)) rfl pass0 (pa_cons (pe_callC C_steps_of (hr.mono (by decide)) rfl pass0 (pa_cons (pe_fldK K (pe_fldK K (pv 0))) (pa_cons (pv 1) pa_nil))) pa_nil)) pe_non (nomark _)) (pss_one (ps_raise rfl (takes_of rfl rfl rfl rfl) (pmk_E T.x_InvalidRule (hr.mono (by decide)) rfl (pa_cons (pv 2) pa_nil)))) pss_nil)
      (pss_one (ps_expr (Mt.pe_methX M__do T.cD (hr.mono (by decide)) pass0S (pv 0) (pa_cons (pe_makeS M_Pairs G_Pairs (hr.mono (by decide)) rfl T.g_Pairs B_Pairs (fun σ => passAt (takes_of rfl rfl rfl rfl) σ) (pa_cons (pe_fldK K (pe_fldK K (pv 0))) (pa_cons (pv 1) pa_nil))) (pa_cons (pe_fldK K (pv 0)) pa_nil)))))), ?_⟩
    obtain ⟨dx, vp, vw, ba, ea, vk, vr, xs, ys, e3, h2, h3, h4, h5, h6⟩ := hd.ex
    dsimp only at e3 h2 h3 h4 h5 h6 w q lb le n1 n8 hn hall hl hd
    subst e3
    have w : Ow F B0 H0 B H ((d, .ins CD dx (dkF vp vw bs.length ba ea vk vr)) :: (ba, .lst xs) :: (ea, .lst ys) :: L) := w
    have hE : ∀ a b, (a, b) ∈ edges new → 0 ≤ b ∧ b < (n : Int) := fun a b h => (edges_in hall a b h).2.2
    have prs : ∀ {hnt : ∀ p ∈ ((d, HO.ins CD dx (dkF vp vw bs.length ba ea vk vr)) :: (ba, HO.lst xs) :: (ea, HO.lst ys) :: L), nT p.2} {σ : L2.St} {B1 : Hp}, Ex B B1 → σ[0]? = some (some (.ref d)) → EV (F.wL ((d, HO.ins CD dx (dkF vp vw bs.length ba ea vk vr)) :: (ba, HO.lst xs) :: (ea, HO.lst ys) :: L) hnt) (tFld K (tVar 0) "pairs") σ B1 (InsP K CP (.int (n : Nat)) (.tuple rs)) := fun e h => ev_ownP h List.mem_cons_self T.cD T.n_pairs rfl upc_ins (upc_ins _ _ _ e h2)
    have ek : ∀ {hnt : ∀ p ∈ ((d, HO.ins CD dx (dkF vp vw bs.length ba ea vk vr)) :: (ba, HO.lst xs) :: (ea, HO.lst ys) :: L), nT p.2}, ED (F.wL ((d, HO.ins CD dx (dkF vp vw bs.length ba ea vk vr)) :: (ba, HO.lst xs) :: (ea, HO.lst ys) :: L) hnt) K (tCall (spEK K) [] E0 (tCons (tCall (spF K preS fSteps) [] E0 (tCons (tFld K (tFld K (tVar 0) "pairs") "kinds") (tCons (tVar 1) tNil))) tNil)) [some (.ref d), some vn, some vl] B (optD (backK (edges new) n)) := ev_ek (ed_F (z := adjD (edges new) n) (eds_cons (ev_fk T.toTP (prs (Ex.refl B) rfl)) (eds_cons (ed_var (i := 1) rfl hn) eds_nil)) ⟨new, n, rfl, by omega, by omega, hall⟩ rfl) hE (by omega) (by have := edges_len new; omega)
    refine wo_when (b := !isNon (optD (backK (edges new) n))) w (et_cmp (ed_op ek ed_non rd_notN)) (fun hb B1 H1 w1 e1 => ?_) (fun hb B1 H1 w1 e1 => ?_)
    · have hs : (backK (edges new) n).isSome = true := by
        cases hh : backK (edges new) n with
        | none => rw [hh] at hb; cases hb
        | some b => rfl
      unfold editO at q
      rw [if_pos hs] at q
      exact mk_raise (P := DD K rl) w1.ok (ed_var (i := 2) rfl (hl.up e1)) fun v2 B2 H2 dd H' s2 k2 hv2 hdd e2 hx => q v2 dd B2 H2 H' (w1.back s2 k2) (e1.trans s2.bb) hv2 e2 hx
    · have hs : backK (edges new) n = none := by
        cases hh : backK (edges new) n with
        | none => rfl
        | some b => rw [hh] at hb; cases hb
      unfold editO at q
      rw [hs, if_neg (by decide)] at q
      refine ⟨.ref d, rfl, d, dx, _, rfl, w1.here, rfl, ?_⟩
      refine (ev_make (K := K) (eds_cons (ev_fk T.toTP (prs e1 rfl)) (eds_cons (ed_var (i := 1) rfl (hn.up e1)) eds_nil)) (kept_of n1 n8 l1 l90 hall hs)) B1 (Ex.refl B1) H1 w1.ok _ fun vq B2 H2 s2 k2 hq => ?_
      have w2 := w1.back s2 k2
      have e2 := e1.trans s2.bb
      exact ⟨.ref d, rfl, d, CD, dx, _, vw, rfl, w2.here, T.cD, T.n_watched, rfl, ⟨F, B0, H0, B2, [(d, .ins CD dx (dkF vp vw bs.length ba ea vk vr)), (ba, .lst xs), (ea, .lst ys)], L, n, rs, bs, es, d⟩, new, vq, vw, rfl, ⟨w2, hd.up e2, lb, le⟩, hq, h3.up e2, fun B' H' L3' w' e' d' => q B' H' L3' w' (e2.trans e') d'⟩

end
end K50

namespace K50
open PySem PySem.Spec PyProof.Rows L2 Evl Ex Dx StX
open PySem.PyData (strOk)
section
variable {P : Program} {w : World} {K : PySem.W.Frag} {mg : Str → Option Value} {base : Heap} {f : Addr} {fd : FuncData}


/-! ### put, take, turn -/
variable {fI : Addr} {fdI : FuncData}
def spPut (K : PySem.W.Frag) (CP CD c0 cR cU : Addr) (o : Nat → List PyData → PyData → PyData → Oc) : Sp := fun vs H Q E => ∃ (S : Sn) (vp vl : V) (pl rl : PyData), vs = [.ref S.d, vp, vl] ∧ At3 K CP CD S H ∧ SG S.n S.rs ∧ Dd K S.B vp pl ∧ Dd K S.B vl rl ∧ Dn K CP CD c0 cR cU S (o S.n S.rs pl rl) Q E
def spTk (K : PySem.W.Frag) (CP CD c0 cR cU : Addr) : Sp := fun vs H Q E => ∃ (S : Sn) (vp : V) (pl : PyData), vs = [.ref S.d, vp] ∧ At3 K CP CD S H ∧ SG S.n S.rs ∧ Dd K S.B vp pl ∧ Dn K CP CD c0 cR cU S (takeO S.rs pl) Q E
theorem putR_len {rs : List PyData} {i k : Nat} {rl : PyData} (h : i + k ≤ rs.length) : (putR rs i k rl).length = rs.length + 1 - k := by
  unfold putR
  rw [List.length_append, List.length_cons, List.length_take, List.length_drop]
  omega
theorem putR_mem {rs : List PyData} {i k : Nat} {rl r : PyData} (h : r ∈ putR rs i k rl) : r = rl ∨ r ∈ rs := by
  unfold putR at h
  rcases List.mem_append.mp h with h | h
  · exact .inr (List.mem_of_mem_take h)
  · rcases List.mem_cons.mp h with h | h
    · exact .inl h
    · exact .inr (List.mem_of_mem_drop h)
theorem eds_star {F : Fm} {σ : L2.St} {B : Hp} {te : TE} {t : TA} {ds es : List PyData} (h : ED F K te σ B (.tuple ds)) (hs : ∀ B1, Ex B B1 → EDs F K t σ B1 es) : EDs F K (tStar K te t) σ B (ds ++ es) := fun B1 e0 H k Q q => h B1 e0 H k _ fun v B2 H2 s2 k2 g => by
  obtain ⟨a, xs, rfl, h1, _, g1⟩ := dd_tup g
  exact ⟨a, xs, rfl, .inl (ex_t k2.e h1), hs B2 (e0.trans s2.bb) B2 (Ex.refl B2) H2 k2 _ fun us B3 H3 s3 k3 gs => q _ B3 H3 (s2.trans s3) k3 ((g1.up s3.bb).app gs)⟩
theorem back_less {n : Nat} {rs rs' : List PyData} (G : SG n rs) (h : ∀ r ∈ rs', r ∈ rs) : backK (edges rs') n = none := by
  have hb := G.bk
  have hE : ∀ a b, (a, b) ∈ edges rs → 0 ≤ b ∧ b < (n : Int) := fun a b h => (edges_in (fun r hr => (G.ok r hr).1) a b h).2.2
  have hE' : ∀ a b, (a, b) ∈ edges rs' → 0 ≤ b ∧ b < (n : Int) := fun a b hm => (edges_in (fun r hr => (G.ok r (h r hr)).1) a b hm).2.2
  have hn : (List.range n).find? (fun (k : Nat) => (Gm.turns (edges rs) (k : Int) (n + 1)).contains (k : Int)) = none := by
    unfold backK at hb
    cases hf : (List.range n).find? (fun (k : Nat) => (Gm.turns (edges rs) (k : Int) (n + 1)).contains (k : Int)) with
    | none => rfl
    | some k => rw [hf] at hb; cases hb
  have hn' : (List.range n).find? (fun (k : Nat) => (Gm.turns (edges rs') (k : Int) (n + 1)).contains (k : Int)) = none := by
    rw [List.find?_eq_none] at hn ⊢
    intro k hk hc
    apply hn k hk
    rw [List.contains_iff_mem, Gm.turns_all hE'] at hc
    rw [List.contains_iff_mem, Gm.turns_all hE]
    refine Gm.Rch.mono (fun p hp => ?_) hc
    unfold edges at hp ⊢
    obtain ⟨r, hr, rfl⟩ := List.mem_map.mp hp
    obtain ⟨h1, h2⟩ := List.mem_filter.mp hr
    exact List.mem_map.mpr ⟨r, List.mem_filter.mpr ⟨h r h1, h2⟩, rfl⟩
  unfold backK
  rw [hn']
  rfl

abbrev s_Desk_put : Stmt := inClass (topS 102) 1
abbrev N_Desk_put : List Str := ["self", "place", "rule", "rules"]
theorem sc_Desk_put : FnScope N_Desk_put ["self", "place", "rule"] (defScope s_Desk_put) := ⟨rfl, rfl, rfl, by decide +kernel, rfl, by decide +kernel, by decide +kernel⟩
theorem ok_put (F : Fun K "put" "Desk.put" s_Desk_put f fd) (T : TK P w K mg base c0 c1 c2 CP cR cU cN CD) (C_is_between : Callee P w K mg base "is_between" 2 ["value", "low", "high"] (spBetween K)) (C_is_rule : Callee P w K mg base "is_rule" 3 ["value", "kinds"] (spF K (fun ds => ∃ d n, ds = [d, .int n]) fRule)) (M__edit : Mt.MethX P w K mg base (L2.CX P w) CD "_edit" 7 ["self", "rules", "rule"] (spEdit K CP CD c0 cR cU)) : FnOk P w K mg base (L2.CX P w) 8 f fd ["self", "place", "rule"] (spPut K CP CD c0 cR cU putO) := by
  refine F.okX sc_Desk_put (fun vs H Q E h => ?_) (fun cdv A outer s H vs Q E hr h => ?_)
  · obtain ⟨S, vp, vl, pl, rl, rfl, _⟩ := h
    rfl
  · obtain ⟨⟨F, B0, H0, B, L3, L, n, rs, bs, es, d⟩, vpl, vl, pl, rl, rfl, ⟨w, hd, lb, le⟩, G, hpl, hrl, q⟩ := h
    have hu64 : (A.deeper (envOfC "Desk.put" (defScope s_Desk_put) s.heap.objs.size f cdv)).units + 64 < cLine := hr.units
    refine ⟨_, (pss_cons (ps_set (i := 3) sc_Desk_put.nd rfl (Or.inl rfl) (pe_fldK K (pe_fldK K (pv 0))))
      (pss_cons (ps_if (pt_not (pt_val (pe_callC C_is_between (hr.mono (by decide)) rfl pass0 (pa_cons (pv 1) (pa_cons pe_int (pa_cons (pe_callB (call_lenK K) (by rfl) T.m_len bt_len (pa_cons (pv 3) pa_nil)) pa_nil)))))) (pss_one (ps_raise rfl (takes_of rfl rfl rfl rfl) (pmk_E T.x_InvalidNumber (hr.mono (by decide)) rfl (pa_cons (pv 1) pa_nil)))) pss_nil)
      (pss_cons (ps_if (PW.pt (pw_or (pt_not (pt_val (pe_callC C_is_rule (hr.mono (by decide)) rfl pass0 (pa_cons (pv 2) (pa_cons (pe_fldK K (pe_fldK K (pv 0))) pa_nil))))) (pw_or1 (pt_cmpR op_ge (pe_callB (call_lenK K) (by rfl) T.m_len bt_len (pa_cons (pv 3) pa_nil)) (pe_gint rfl T.c_MOST_RULES_AT_DESK) (nomark _))))) (pss_one (ps_raise rfl (takes_of rfl rfl rfl rfl) (pmk_E T.x_InvalidRule (hr.mono (by decide)) rfl (pa_cons (pv 2) pa_nil)))) pss_nil)
      (pss_one (ps_expr (Mt.pe_methX M__edit T.cD (hr.mono (by decide)) (fun σ => passAt (takes_of rfl rfl rfl rfl) σ) (pv 0) (pa_cons (pe_tup (pa_star (pe_slice (sl_anyK K) (pv 3) po_none (po_some (pv 1))) (pa_cons (pv 2) (pa_star (pe_slice (sl_anyK K) (pv 3) (po_some (pv 1)) po_none) pa_nil)))) (pa_cons (pv 2) pa_nil)))))))), ?_⟩
    obtain ⟨dx, vp, vw, ba, ea, vk, vr, xs, ys, e3, h2, h3, h4, h5, h6⟩ := hd.ex
    dsimp only at e3 h2 h3 h4 h5 h6 w q lb le G hpl hd hrl
    subst e3
    have w : Ow F B0 H0 B H ((d, .ins CD dx (dkF vp vw bs.length ba ea vk vr)) :: (ba, .lst xs) :: (ea, .lst ys) :: L) := w
    have l1 := G.l1
    have l12 := G.l12
    have n1 := G.n1
    have n8 := G.n8
    have prs : ∀ {hnt : ∀ p ∈ ((d, HO.ins CD dx (dkF vp vw bs.length ba ea vk vr)) :: (ba, HO.lst xs) :: (ea, HO.lst ys) :: L), nT p.2} {σ : L2.St} {B1 : Hp}, Ex B B1 → σ[0]? = some (some (.ref d)) → EV (F.wL ((d, HO.ins CD dx (dkF vp vw bs.length ba ea vk vr)) :: (ba, HO.lst xs) :: (ea, HO.lst ys) :: L) hnt) (tFld K (tVar 0) "pairs") σ B1 (InsP K CP (.int (n : Nat)) (.tuple rs)) := fun e h => ev_ownP h List.mem_cons_self T.cD T.n_pairs rfl upc_ins (upc_ins _ _ _ e h2)
    refine wo_asg (i := 3) (P := DD K (.tuple rs)) w (ev_fr T.toTP (prs (Ex.refl B) rfl)) fun vrs B1 H1 w1 e1 hrs => ?_
    have hpl := hpl.up e1
    have lenR : ∀ {F : Fm} {σ : L2.St} {B2 : Hp}, Ex B1 B2 → σ[3]? = some (some vrs) → ED F K (tCB (rLnK K) (tCons (tVar 3) tNil)) σ B2 (.int (rs.length : Nat)) := fun e h => ev_cb (eds_cons (ed_var h (hrs.up e)) eds_nil) (rc_len rfl)
    have hrl := hrl.up e1
    have hd := hd.up e1
    refine wo_when (b := !inB pl 0 (rs.length : Nat)) w1 (et_not (et_val (ed_F (eds_cons (ed_var (i := 1) rfl hpl) (eds_cons ed_int (eds_cons (lenR (Ex.refl B1) rfl) eds_nil))) ⟨_, _, _, rfl⟩ rfl))) (fun hb B2 H2 w2 e2 => ?_) (fun hb B2 H2 w2 e2 => ?_)
    · have hb' : inB pl 0 (rs.length : Nat) = false := by simpa using hb
      unfold putO at q
      rw [if_pos hb'] at q
      exact mk_raise (P := DD K pl) w2.ok (ed_var (i := 1) rfl (hpl.up e2)) fun v2 B3 H3 dd H' s3 k3 hv2 hdd e3 hx => q v2 dd B3 H3 H' (w2.back s3 k3) (e1.trans (e2.trans s3.bb)) hv2 e3 hx
    have hb' : inB pl 0 (rs.length : Nat) = true := by simpa using hb
    obtain ⟨i, rfl, i0, i1⟩ := inB_is hb'
    obtain rfl := dd_int hpl
    unfold putO at q
    rw [hb', if_neg (by decide)] at q
    have hrs := hrs.up e2
    have hrl := hrl.up e2
    have isr : ∀ {hnt : ∀ p ∈ ((d, HO.ins CD dx (dkF vp vw bs.length ba ea vk vr)) :: (ba, HO.lst xs) :: (ea, HO.lst ys) :: L), nT p.2}, ED (F.wL ((d, HO.ins CD dx (dkF vp vw bs.length ba ea vk vr)) :: (ba, HO.lst xs) :: (ea, HO.lst ys) :: L) hnt) K (tCall (spF K (fun ds => ∃ d n, ds = [d, .int n]) fRule) [] E0 (tCons (tVar 2) (tCons (tFld K (tFld K (tVar 0) "pairs") "kinds") tNil))) [some (.ref d), some (.int i), some vl, some vrs] B2 (.bool (ruleD rl n)) := ed_F (eds_cons (ed_var (i := 2) rfl hrl) (eds_cons (ev_fk T.toTP (prs (e1.trans e2) rfl)) eds_nil)) ⟨_, _, rfl⟩ rfl
    refine wo_when (b := (!ruleD rl n || decide (12 ≤ rs.length))) w2 (et_is (et_or (et_not (et_val isr)) fun _ => et_cmp (ed_op (lenR e2 rfl) (ed_int (K := K) (i := 12)) rd_ge)) (by congr 1; exact decide_eq_decide.mpr (by omega))) (fun hc B3 H3 w3 e3 => ?_) (fun hc B3 H3 w3 e3 => ?_)
    · rw [if_pos hc] at q
      exact mk_raise (P := DD K rl) w3.ok (ed_var (i := 2) rfl (hrl.up e3)) fun v2 B4 H4 dd H' s4 k4 hv2 hdd e4 hx => q v2 dd B4 H4 H' (w3.back s4 k4) (e1.trans (e2.trans (e3.trans s4.bb))) hv2 e4 hx
    · rw [if_neg (by rw [hc]; decide)] at q
      have hrd : ruleD rl n = true := by
        cases hh : ruleD rl n with
        | true => rfl
        | false => rw [hh] at hc; cases hc
      have hlt : rs.length < 12 := by
        cases hh : decide (12 ≤ rs.length) with
        | true => rw [hh, Bool.or_true] at hc; cases hc
        | false => have := of_decide_eq_false hh; omega
      have hi : i ≤ (rs.length : Nat) := by omega
      have en : numI (.int i) = i := rfl
      rw [en] at q
      have hik : i.toNat + 0 ≤ rs.length := by omega
      have hlen := putR_len (rl := rl) hik
      refine ⟨.ref d, rfl, d, dx, _, rfl, w3.here, rfl, ?_⟩
      have tp : EDs (F.wL ((d, HO.ins CD dx (dkF vp vw bs.length ba ea vk vr)) :: (ba, HO.lst xs) :: (ea, HO.lst ys) :: L) w3.nt) K (tCons (tTup (tStar K (tSl (rSlX K) (tVar 3) tNoPart (tPart (tVar 1))) (tCons (tVar 2) (tStar K (tSl (rSlX K) (tVar 3) (tPart (tVar 1)) tNoPart) tNil)))) (tCons (tVar 2) tNil)) [some (.ref d), some (.int i), some vl, some vrs] B3 [.tuple (putR rs i.toNat 0 rl), rl] := eds_cons (ed_is (ed_tup (eds_star (ed_slT (ed_var (i := 3) rfl (hrs.up e3)) eo_none (eo_some (K := K) (ed_var (i := 1) rfl (.int i)))) fun B4 e4 => eds_cons (ed_var (i := 2) rfl (hrl.up (e3.trans e4))) (eds_star (ed_slT (ed_var (i := 3) rfl (hrs.up (e3.trans e4))) (eo_some (K := K) (ed_var (i := 1) rfl (.int i))) eo_none) fun B5 e5 => eds_nil)) (by
        rw [List.append_nil, List.length_append, List.length_cons]
        have h1 := cutL_len rs none (some i)
        have h2 := cutL_len rs (some i) none
        omega)) (by
        rw [List.append_nil, cut_to i0 hi, cut_from (i := i) (by omega) (by omega)]
        unfold putR
        rw [show (i).toNat = i.toNat + 0 by omega])) (eds_cons (ed_var (i := 2) rfl (hrl.up e3)) eds_nil)
      refine tp B3 (Ex.refl B3) H3 w3.ok _ fun vs4 B4 H4 s4 k4 g4 => ?_
      obtain ⟨v4, v5, rfl, g4, g5⟩ := arg2 g4
      have w4 := w3.back s4 k4
      have e4 := e1.trans (e2.trans (e3.trans s4.bb))
      refine ⟨⟨F, B0, H0, B4, [(d, .ins CD dx (dkF vp vw bs.length ba ea vk vr)), (ba, .lst xs), (ea, .lst ys)], L, n, rs, bs, es, d⟩, v4, v5, _, rl, rfl, ⟨w4, hd.up (e2.trans (e3.trans s4.bb)), lb, le⟩, ⟨n1, n8⟩, g4, ⟨by omega, by omega⟩, fun r hr => ?_, g5, ?_⟩
      · rcases putR_mem hr with rfl | hr
        · exact hrd
        · exact (G.ok r hr).1
      · unfold editO at q ⊢
        split at q
        · rename_i hs
          rw [if_pos hs]
          exact fun v' dd B' H1 H' w' e' hv e1' hx => q v' dd B' H1 H' w' (e4.trans e') hv e1' hx
        · rename_i hs
          rw [if_neg hs]
          exact fun B' H' L3' w' e' d' => q B' H' L3' w' (e4.trans e') d'

abbrev s_Desk_turn : Stmt := inClass (topS 102) 3
abbrev N_Desk_turn : List Str := ["self", "place", "rule", "rules"]
theorem sc_Desk_turn : FnScope N_Desk_turn ["self", "place", "rule"] (defScope s_Desk_turn) := ⟨rfl, rfl, rfl, by decide +kernel, rfl, by decide +kernel, by decide +kernel⟩
theorem ok_turn (F : Fun K "turn" "Desk.turn" s_Desk_turn f fd) (T : TK P w K mg base c0 c1 c2 CP cR cU cN CD) (C_is_between : Callee P w K mg base "is_between" 2 ["value", "low", "high"] (spBetween K)) (C_is_rule : Callee P w K mg base "is_rule" 3 ["value", "kinds"] (spF K (fun ds => ∃ d n, ds = [d, .int n]) fRule)) (M__edit : Mt.MethX P w K mg base (L2.CX P w) CD "_edit" 7 ["self", "rules", "rule"] (spEdit K CP CD c0 cR cU)) : FnOk P w K mg base (L2.CX P w) 8 f fd ["self", "place", "rule"] (spPut K CP CD c0 cR cU turnO) := by
  refine F.okX sc_Desk_turn (fun vs H Q E h => ?_) (fun cdv A outer s H vs Q E hr h => ?_)
  · obtain ⟨S, vp, vl, pl, rl, rfl, _⟩ := h
    rfl
  · obtain ⟨⟨F, B0, H0, B, L3, L, n, rs, bs, es, d⟩, vpl, vl, pl, rl, rfl, ⟨w, hd, lb, le⟩, G, hpl, hrl, q⟩ := h
    have hu64 : (A.deeper (envOfC "Desk.turn" (defScope s_Desk_turn) s.heap.objs.size f cdv)).units + 64 < cLine := hr.units
    refine ⟨_, (pss_cons (ps_set (i := 3) sc_Desk_turn.nd rfl (Or.inl rfl) (pe_fldK K (pe_fldK K (pv 0))))
      (pss_cons (ps_if (pt_not (pt_val (pe_callC C_is_between (hr.mono (by decide)) rfl pass0 (pa_cons (pv 1) (pa_cons pe_int (pa_cons (pe_op op_sub (pe_callB (call_lenK K) (by rfl) T.m_len bt_len (pa_cons (pv 3) pa_nil)) pe_int) pa_nil)))))) (pss_one (ps_raise rfl (takes_of rfl rfl rfl rfl) (pmk_E T.x_InvalidNumber (hr.mono (by decide)) rfl (pa_cons (pv 1) pa_nil)))) pss_nil)
      (pss_cons (ps_if (pt_not (pt_val (pe_callC C_is_rule (hr.mono (by decide)) rfl pass0 (pa_cons (pv 2) (pa_cons (pe_fldK K (pe_fldK K (pv 0))) pa_nil))))) (pss_one (ps_raise rfl (takes_of rfl rfl rfl rfl) (pmk_E T.x_InvalidRule (hr.mono (by decide)) rfl (pa_cons (pv 2) pa_nil)))) pss_nil)
      (pss_one (ps_expr (Mt.pe_methX M__edit T.cD (hr.mono (by decide)) (fun σ => passAt (takes_of rfl rfl rfl rfl) σ) (pv 0) (pa_cons (pe_tup (pa_star (pe_slice (sl_anyK K) (pv 3) po_none (po_some (pv 1))) (pa_cons (pv 2) (pa_star (pe_slice (sl_anyK K) (pv 3) (po_some (pe_op (op_addK K) (pv 1) pe_int)) po_none) pa_nil)))) (pa_cons (pv 2) pa_nil)))))))), ?_⟩
    obtain ⟨dx, vp, vw, ba, ea, vk, vr, xs, ys, e3, h2, h3, h4, h5, h6⟩ := hd.ex
    dsimp only at e3 h2 h3 h4 h5 h6 w q lb le G hpl hd hrl
    subst e3
    have w : Ow F B0 H0 B H ((d, .ins CD dx (dkF vp vw bs.length ba ea vk vr)) :: (ba, .lst xs) :: (ea, .lst ys) :: L) := w
    have l1 := G.l1
    have l12 := G.l12
    have n1 := G.n1
    have n8 := G.n8
    have prs : ∀ {hnt : ∀ p ∈ ((d, HO.ins CD dx (dkF vp vw bs.length ba ea vk vr)) :: (ba, HO.lst xs) :: (ea, HO.lst ys) :: L), nT p.2} {σ : L2.St} {B1 : Hp}, Ex B B1 → σ[0]? = some (some (.ref d)) → EV (F.wL ((d, HO.ins CD dx (dkF vp vw bs.length ba ea vk vr)) :: (ba, HO.lst xs) :: (ea, HO.lst ys) :: L) hnt) (tFld K (tVar 0) "pairs") σ B1 (InsP K CP (.int (n : Nat)) (.tuple rs)) := fun e h => ev_ownP h List.mem_cons_self T.cD T.n_pairs rfl upc_ins (upc_ins _ _ _ e h2)
    refine wo_asg (i := 3) (P := DD K (.tuple rs)) w (ev_fr T.toTP (prs (Ex.refl B) rfl)) fun vrs B1 H1 w1 e1 hrs => ?_
    have hpl := hpl.up e1
    have lenR : ∀ {F : Fm} {σ : L2.St} {B2 : Hp}, Ex B1 B2 → σ[3]? = some (some vrs) → ED F K (tCB (rLnK K) (tCons (tVar 3) tNil)) σ B2 (.int (rs.length : Nat)) := fun e h => ev_cb (eds_cons (ed_var h (hrs.up e)) eds_nil) (rc_len rfl)
    have hrl := hrl.up e1
    have hd := hd.up e1
    refine wo_when (b := !inB pl 0 ((rs.length : Nat) - 1)) w1 (et_not (et_val (ed_F (eds_cons (ed_var (i := 1) rfl hpl) (eds_cons ed_int (eds_cons (ed_op (lenR (Ex.refl B1) rfl) ed_int rd_sub) eds_nil))) ⟨_, _, _, rfl⟩ rfl))) (fun hb B2 H2 w2 e2 => ?_) (fun hb B2 H2 w2 e2 => ?_)
    · have hb' : inB pl 0 ((rs.length : Nat) - 1) = false := by simpa using hb
      unfold turnO at q
      rw [if_pos hb'] at q
      exact mk_raise (P := DD K pl) w2.ok (ed_var (i := 1) rfl (hpl.up e2)) fun v2 B3 H3 dd H' s3 k3 hv2 hdd e3 hx => q v2 dd B3 H3 H' (w2.back s3 k3) (e1.trans (e2.trans s3.bb)) hv2 e3 hx
    have hb' : inB pl 0 ((rs.length : Nat) - 1) = true := by simpa using hb
    obtain ⟨i, rfl, i0, i1⟩ := inB_is hb'
    obtain rfl := dd_int hpl
    unfold turnO at q
    rw [hb', if_neg (by decide)] at q
    have hrs := hrs.up e2
    have hrl := hrl.up e2
    have isr : ∀ {hnt : ∀ p ∈ ((d, HO.ins CD dx (dkF vp vw bs.length ba ea vk vr)) :: (ba, HO.lst xs) :: (ea, HO.lst ys) :: L), nT p.2}, ED (F.wL ((d, HO.ins CD dx (dkF vp vw bs.length ba ea vk vr)) :: (ba, HO.lst xs) :: (ea, HO.lst ys) :: L) hnt) K (tCall (spF K (fun ds => ∃ d n, ds = [d, .int n]) fRule) [] E0 (tCons (tVar 2) (tCons (tFld K (tFld K (tVar 0) "pairs") "kinds") tNil))) [some (.ref d), some (.int i), some vl, some vrs] B2 (.bool (ruleD rl n)) := ed_F (eds_cons (ed_var (i := 2) rfl hrl) (eds_cons (ev_fk T.toTP (prs (e1.trans e2) rfl)) eds_nil)) ⟨_, _, rfl⟩ rfl
    refine wo_when (b := !ruleD rl n) w2 (et_not (et_val isr)) (fun hc B3 H3 w3 e3 => ?_) (fun hc B3 H3 w3 e3 => ?_)
    · rw [if_pos hc] at q
      exact mk_raise (P := DD K rl) w3.ok (ed_var (i := 2) rfl (hrl.up e3)) fun v2 B4 H4 dd H' s4 k4 hv2 hdd e4 hx => q v2 dd B4 H4 H' (w3.back s4 k4) (e1.trans (e2.trans (e3.trans s4.bb))) hv2 e4 hx
    · rw [if_neg (by rw [hc]; decide)] at q
      have hrd : ruleD rl n = true := by
        cases hh : ruleD rl n with
        | true => rfl
        | false => rw [hh] at hc; cases hc
      have hi : i ≤ (rs.length : Nat) := by omega
      have en : numI (.int i) = i := rfl
      rw [en] at q
      have hik : i.toNat + 1 ≤ rs.length := by omega
      have hlen := putR_len (rl := rl) hik
      refine ⟨.ref d, rfl, d, dx, _, rfl, w3.here, rfl, ?_⟩
      have tp : EDs (F.wL ((d, HO.ins CD dx (dkF vp vw bs.length ba ea vk vr)) :: (ba, HO.lst xs) :: (ea, HO.lst ys) :: L) w3.nt) K (tCons (tTup (tStar K (tSl (rSlX K) (tVar 3) tNoPart (tPart (tVar 1))) (tCons (tVar 2) (tStar K (tSl (rSlX K) (tVar 3) (tPart (tOp (rAddA K) (tVar 1) (tC (.int 1)))) tNoPart) tNil)))) (tCons (tVar 2) tNil)) [some (.ref d), some (.int i), some vl, some vrs] B3 [.tuple (putR rs i.toNat 1 rl), rl] := eds_cons (ed_is (ed_tup (eds_star (ed_slT (ed_var (i := 3) rfl (hrs.up e3)) eo_none (eo_some (K := K) (ed_var (i := 1) rfl (.int i)))) fun B4 e4 => eds_cons (ed_var (i := 2) rfl (hrl.up (e3.trans e4))) (eds_star (ed_slT (ed_var (i := 3) rfl (hrs.up (e3.trans e4))) (eo_some (K := K) (ed_op (ed_var (i := 1) rfl (.int i)) ed_int rd_add)) eo_none) fun B5 e5 => eds_nil)) (by
        rw [List.append_nil, List.length_append, List.length_cons]
        have h1 := cutL_len rs none (some i)
        have h2 := cutL_len rs (some (i + 1)) none
        omega)) (by
        rw [List.append_nil, cut_to i0 hi, cut_from (i := (i + 1)) (by omega) (by omega)]
        unfold putR
        rw [show ((i + 1)).toNat = i.toNat + 1 by omega])) (eds_cons (ed_var (i := 2) rfl (hrl.up e3)) eds_nil)
      refine tp B3 (Ex.refl B3) H3 w3.ok _ fun vs4 B4 H4 s4 k4 g4 => ?_
      obtain ⟨v4, v5, rfl, g4, g5⟩ := arg2 g4
      have w4 := w3.back s4 k4
      have e4 := e1.trans (e2.trans (e3.trans s4.bb))
      refine ⟨⟨F, B0, H0, B4, [(d, .ins CD dx (dkF vp vw bs.length ba ea vk vr)), (ba, .lst xs), (ea, .lst ys)], L, n, rs, bs, es, d⟩, v4, v5, _, rl, rfl, ⟨w4, hd.up (e2.trans (e3.trans s4.bb)), lb, le⟩, ⟨n1, n8⟩, g4, ⟨by omega, by omega⟩, fun r hr => ?_, g5, ?_⟩
      · rcases putR_mem hr with rfl | hr
        · exact hrd
        · exact (G.ok r hr).1
      · unfold editO at q ⊢
        split at q
        · rename_i hs
          rw [if_pos hs]
          exact fun v' dd B' H1 H' w' e' hv e1' hx => q v' dd B' H1 H' w' (e4.trans e') hv e1' hx
        · rename_i hs
          rw [if_neg hs]
          exact fun B' H' L3' w' e' d' => q B' H' L3' w' (e4.trans e') d'

abbrev s_Desk_take : Stmt := inClass (topS 102) 2
abbrev N_Desk_take : List Str := ["self", "place", "rules"]
theorem sc_Desk_take : FnScope N_Desk_take ["self", "place"] (defScope s_Desk_take) := ⟨rfl, rfl, rfl, by decide +kernel, rfl, by decide +kernel, by decide +kernel⟩
theorem ok_tk (F : Fun K "take" "Desk.take" s_Desk_take f fd) (T : TK P w K mg base c0 c1 c2 CP cR cU cN CD) (C_is_between : Callee P w K mg base "is_between" 2 ["value", "low", "high"] (spBetween K)) (M_Pairs : Mk K CP fI) (G_Pairs : FnOk P w K mg base (L2.CX P w) 5 fI fdI ["self", "kinds", "rules"] (spPairs K CP c0 c1 c2)) (B_Pairs : L2.Binds K fdI ["self", "kinds", "rules"] []) (M__do : Mt.MethX P w K mg base CX0 CD "_do" 3 ["self", "pairs", "watched"] (spDo K CP CD)) : FnOk P w K mg base (L2.CX P w) 8 f fd ["self", "place"] (spTk K CP CD c0 cR cU) := by
  refine F.okX sc_Desk_take (fun vs H Q E h => ?_) (fun cdv A outer s H vs Q E hr h => ?_)
  · obtain ⟨S, vp, pl, rfl, _⟩ := h
    rfl
  · obtain ⟨⟨F, B0, H0, B, L3, L, n, rs, bs, es, d⟩, vpl, pl, rfl, ⟨w, hd, lb, le⟩, G, hpl, q⟩ := h
    have hu64 : (A.deeper (envOfC "Desk.take" (defScope s_Desk_take) s.heap.objs.size f cdv)).units + 64 < cLine := hr.units
    refine ⟨_, (pss_cons (ps_set (i := 2) sc_Desk_take.nd rfl (Or.inl rfl) (pe_fldK K (pe_fldK K (pv 0))))
      (pss_cons (ps_if (pt_not (pt_val (pe_callC C_is_between (hr.mono (by decide)) rfl pass0 (pa_cons (pv 1) (pa_cons pe_int (pa_cons (pe_op op_sub (pe_callB (call_lenK K) (by rfl) T.m_len bt_len (pa_cons (pv 2) pa_nil)) pe_int) pa_nil)))))) (pss_one (ps_raise rfl (takes_of rfl rfl rfl rfl) (pmk_E T.x_InvalidNumber (hr.mono (by decide)) rfl (pa_cons (pv 1) pa_nil)))) pss_nil)
      (pss_cons (ps_if (pt_cmpR (op_eqDK K hu64) (pe_callB (call_lenK K) (by rfl) T.m_len bt_len (pa_cons (pv 2) pa_nil)) pe_int (nomark _)) (pss_one (ps_raise rfl (takes_of rfl rfl rfl rfl) (pmk_E T.x_Undefined (hr.mono (by decide)) rfl (pa_cons pe_str pa_nil)))) pss_nil)
      (pss_one (ps_expr (Mt.pe_methX M__do T.cD (hr.mono (by decide)) pass0S (pv 0) (pa_cons (pe_makeS M_Pairs G_Pairs (hr.mono (by decide)) rfl T.g_Pairs B_Pairs (fun σ => passAt (takes_of rfl rfl rfl rfl) σ) (pa_cons (pe_fldK K (pe_fldK K (pv 0))) (pa_cons (pe_op (op_addK K) (pe_slice (sl_anyK K) (pv 2) po_none (po_some (pv 1))) (pe_slice (sl_anyK K) (pv 2) (po_some (pe_op (op_addK K) (pv 1) pe_int)) po_none)) pa_nil))) (pa_cons (pe_fldK K (pv 0)) pa_nil)))))))), ?_⟩
    obtain ⟨dx, vp, vw, ba, ea, vk, vr, xs, ys, e3, h2, h3, h4, h5, h6⟩ := hd.ex
    dsimp only at e3 h2 h3 h4 h5 h6 w q lb le G hpl hd
    subst e3
    have w : Ow F B0 H0 B H ((d, .ins CD dx (dkF vp vw bs.length ba ea vk vr)) :: (ba, .lst xs) :: (ea, .lst ys) :: L) := w
    have l1 := G.l1
    have l12 := G.l12
    have n1 := G.n1
    have n8 := G.n8
    have prs : ∀ {hnt : ∀ p ∈ ((d, HO.ins CD dx (dkF vp vw bs.length ba ea vk vr)) :: (ba, HO.lst xs) :: (ea, HO.lst ys) :: L), nT p.2} {σ : L2.St} {B1 : Hp}, Ex B B1 → σ[0]? = some (some (.ref d)) → EV (F.wL ((d, HO.ins CD dx (dkF vp vw bs.length ba ea vk vr)) :: (ba, HO.lst xs) :: (ea, HO.lst ys) :: L) hnt) (tFld K (tVar 0) "pairs") σ B1 (InsP K CP (.int (n : Nat)) (.tuple rs)) := fun e h => ev_ownP h List.mem_cons_self T.cD T.n_pairs rfl upc_ins (upc_ins _ _ _ e h2)
    refine wo_asg (i := 2) (P := DD K (.tuple rs)) w (ev_fr T.toTP (prs (Ex.refl B) rfl)) fun vrs B1 H1 w1 e1 hrs => ?_
    have hpl := hpl.up e1
    have lenR : ∀ {F : Fm} {σ : L2.St} {B2 : Hp}, Ex B1 B2 → σ[2]? = some (some vrs) → ED F K (tCB (rLnK K) (tCons (tVar 2) tNil)) σ B2 (.int (rs.length : Nat)) := fun e h => ev_cb (eds_cons (ed_var h (hrs.up e)) eds_nil) (rc_len rfl)
    have hd := hd.up e1
    refine wo_when (b := !inB pl 0 ((rs.length : Nat) - 1)) w1 (et_not (et_val (ed_F (eds_cons (ed_var (i := 1) rfl hpl) (eds_cons ed_int (eds_cons (ed_op (lenR (Ex.refl B1) rfl) ed_int rd_sub) eds_nil))) ⟨_, _, _, rfl⟩ rfl))) (fun hb B2 H2 w2 e2 => ?_) (fun hb B2 H2 w2 e2 => ?_)
    · have hb' : inB pl 0 ((rs.length : Nat) - 1) = false := by simpa using hb
      unfold takeO at q
      rw [if_pos hb'] at q
      exact mk_raise (P := DD K pl) w2.ok (ed_var (i := 1) rfl (hpl.up e2)) fun v2 B3 H3 dd H' s3 k3 hv2 hdd e3 hx => q v2 dd B3 H3 H' (w2.back s3 k3) (e1.trans (e2.trans s3.bb)) hv2 e3 hx
    have hb' : inB pl 0 ((rs.length : Nat) - 1) = true := by simpa using hb
    obtain ⟨i, rfl, i0, i1⟩ := inB_is hb'
    obtain rfl := dd_int hpl
    unfold takeO at q
    rw [hb', if_neg (by decide)] at q
    have hrs := hrs.up e2
    refine wo_when (b := ((rs.length : Nat) : Int) == 1) w2 (et_is (et_cmp (ed_op (lenR e2 rfl) ed_int (rd_eqD rfl rfl))) (eqv_int _ _)) (fun hc B3 H3 w3 e3 => ?_) (fun hc B3 H3 w3 e3 => ?_)
    · have hc' : rs.length = 1 := by have := beq_iff_eq.mp hc; omega
      rw [if_pos hc'] at q
      exact mk_raise (P := DD K (.str "alone")) w3.ok ed_str fun v2 B4 H4 dd H' s4 k4 hv2 hdd e4 hx => q v2 dd B4 H4 H' (w3.back s4 k4) (e1.trans (e2.trans (e3.trans s4.bb))) hv2 e4 hx
    · have hc' : rs.length ≠ 1 := fun z => by rw [z] at hc; cases hc
      rw [if_neg hc'] at q
      have en : numI (.int i) = i := rfl
      rw [en] at q
      have hlen : (rs.take i.toNat ++ rs.drop (i.toNat + 1)).length = rs.length - 1 := by
        rw [List.length_append, List.length_take, List.length_drop]
        omega
      have hmem : ∀ r ∈ rs.take i.toNat ++ rs.drop (i.toNat + 1), r ∈ rs := fun r hr => by
        rcases List.mem_append.mp hr with hr | hr
        · exact List.mem_of_mem_take hr
        · exact List.mem_of_mem_drop hr
      have e23 := e2.trans e3
      refine ⟨.ref d, rfl, d, dx, _, rfl, w3.here, rfl, ?_⟩
      refine (ev_make (K := K) (dr := .tuple (rs.take i.toNat ++ rs.drop (i.toNat + 1))) (eds_cons (ev_fk T.toTP (prs (e1.trans e23) rfl)) (eds_cons (ed_is (ed_op (ed_slT (ed_var (i := 2) rfl (hrs.up e3)) eo_none (eo_some (K := K) (ed_var (i := 1) rfl (.int i)))) (ed_slT (ed_var (i := 2) rfl (hrs.up e3)) (eo_some (K := K) (ed_op (ed_var (i := 1) rfl (.int i)) ed_int rd_add)) eo_none) (rd_addT (by
        have h1 := cutL_len rs none (some i)
        have h2 := cutL_len rs (some (i + 1)) none
        omega))) (by
        rw [cut_to i0 (by omega), cut_from (i := i + 1) (by omega) (by omega), show (i + 1).toNat = i.toNat + 1 by omega])) eds_nil)) (kept_of n1 n8 (by omega) (by omega) (fun r hr => (G.ok r (hmem r hr)).1) (back_less G hmem))) B3 (Ex.refl B3) H3 w3.ok _ fun vq B4 H4 s4 k4 hq => ?_
      have w4 := w3.back s4 k4
      have e4 := e1.trans (e23.trans s4.bb)
      exact ⟨.ref d, rfl, d, CD, dx, _, vw, rfl, w4.here, T.cD, T.n_watched, rfl, ⟨F, B0, H0, B4, [(d, .ins CD dx (dkF vp vw bs.length ba ea vk vr)), (ba, .lst xs), (ea, .lst ys)], L, n, rs, bs, es, d⟩, _, vq, vw, rfl, ⟨w4, hd.up (e23.trans s4.bb), lb, le⟩, hq, h3.up e4, fun B' H' L3' w' e' d' => q B' H' L3' w' (e4.trans e') d'⟩

end
end K50

namespace K50
open PySem PySem.Spec PyProof.Rows L2 Evl Ex Dx StX
open PySem.PyData (strOk)
section
variable {P : Program} {w : World} {K : PySem.W.Frag} {mg : Str → Option Value} {base : Heap} {f : Addr} {fd : FuncData}

structure CalleeX (P : Program) (w : World) (K : PySem.W.Frag) (mg : Str → Option Value) (base : Heap) (x : Str) (k : Nat) (ps : List Str) (sp : Sp) : Prop where
  ex : ∃ f fd, FnOk P w K mg base (L2.CX P w) k f fd ps sp ∧ mg x = some (.ref f) ∧ PySem.W.keepIn K (.ref f) = true ∧ L2.Binds K fd ps []
theorem pe_callX {X : Cx} {x : Str} {k : Nat} {ps : List Str} {sp : Sp} {E : L2.St → XK} {e : Expr} {es : List Expr} {t : TA} {p pos : Pos} (C : CalleeX X.prog X.w X.K X.mg X.base x k ps sp) (hr : Room k X.A) (hg : Gl X x) (hx : ∀ σ, PassesAt (L2.CX X.prog X.w) X σ (E σ)) (ha : PA X (e :: es) t) (hdb : (x == ("__debug__" : Str)) = false := by decide)
    (he : starEach (e :: es) X.env = (false, eval e X.env) :: starEach es X.env := by rfl) (hpl : (backTo pos (starEach es X.env)).any (·.1) = false := by rfl) : PE X (.Call (.Name x p) (e :: es) [] pos) (tCallS sp E t) := by
  obtain ⟨f, fd, F, hm, hk, hb⟩ := C.ex
  exact pe_callS F hr hg hm hk hb hx ha hdb he hpl




/-! ### same_state -/
theorem nf {b : Bool} (h : (!b) = true) : b = false := by cases b <;> first | rfl | cases h
theorem nt {b : Bool} (h : (!b) = false) : b = true := by cases b <;> first | rfl | cases h
section
variable {F : Fm} {B : Hp} {dk dr dk2 dr2 : PyData} {E : XK} {L : List (Addr × HO)} {B0 H0 H : Hp} {σ : L2.St} {te : TE} {x y : PyData} {p1 p2 : Nat} {tz : L2.TS} {D : Ends}
theorem rv_ownNe (s1 : SeqAt.shaped dk = true) (s2 : SeqAt.shaped dr = true) (s3 : SeqAt.shaped dk2 = true) (s4 : SeqAt.shaped dr2 = true) : RV2 F (Mt.rOwnNe CP (spEq K CP) E) B (InsP K CP dk dr) (InsP K CP dk2 dr2) (DD K (.bool (!(PyData.eqv dk dk2 && PyData.eqv dr dr2)))) := fun B1 e0 H u v j hu hv Q q => by
  obtain ⟨x, dx, vk, vr, rfl, h1, h2, h3⟩ := hu
  obtain ⟨y, dy, wk, wr, rfl, g1, g2, g3⟩ := hv
  exact ⟨x, dx, _, y, dy, _, rfl, rfl, j.e _ _ h1, j.e _ _ g1, B1, .ref x, .ref y, dk, dr, _, rfl, j.e, ⟨x, dx, vk, vr, rfl, h1, h2, h3⟩, s1, s2, .inl ⟨dk2, dr2, ⟨y, dy, wk, wr, rfl, g1, g2, g3⟩, s3, s4, rfl⟩, fun B' H' s => ⟨_, rfl, q _ B' H' s.pure (j.pure s) (.bl _)⟩⟩
theorem wo_unpP (w : Ow F B0 H0 B H L) (h : ED (F.wL L w.nt) K te σ B (.tuple [x, y])) (q : ∀ u v B1 H1, Ow F B0 H0 B1 H1 L → Ex B B1 → Dd K B1 u x → Dd K B1 v y → tz D ((σ.set p1 (some u)).set p2 (some v)) H1) : tSeq (tAsg te (gTup K 2 (gCons (gName p1) (gCons (gName p2) gNil)))) tz D σ H := h B (Ex.refl B) H w.ok _ fun w1 B1 H1 s jj p => by
  obtain ⟨b, us, rfl, hb, _, hus⟩ := dd_tup p
  cases hus with
  | cons hu t =>
    cases t with
    | cons hv t =>
      cases t
      exact ⟨b, _, rfl, ex_t jj.e hb, rfl, _, _, rfl, _, _, rfl, rfl, q _ _ B1 H1 (w.back s jj) s.bb hu hv⟩
end
def sameB (n1 n2 : Nat) (r1 r2 : List PyData) (b1 b2 e1 e2 : List (List PyData)) : Bool := (PyData.eqv (.int (n1 : Nat)) (.int (n2 : Nat)) && PyData.eqv (.tuple r1) (.tuple r2)) && (decide (b1.length = b2.length) && decide (e1.length = e2.length))
def spSame (K : PySem.W.Frag) (CP CD : Addr) : Sp := fun vs H Q _ => ∃ (F : Fm) (B : Hp) (n1 n2 : Nat) (r1 r2 : List PyData) (b1 b2 e1 e2 : List (List PyData)) (a b : Addr), vs = [.ref a, .ref b] ∧ Ok F B H ∧ StD K CP CD F B n1 r1 b1 e1 a ∧ StD K CP CD F B n2 r2 b2 e2 b ∧ SG n1 r1 ∧ SG n2 r2 ∧ ∀ B' H', Step F.M B H B' H' → Ok F B' H' → Q (.bl (sameB n1 n2 r1 r2 b1 b2 e1 e2)) H'
theorem SG.sm {n : Nat} {rs : List PyData} (G : SG n rs) : Sm 50 (.tuple rs) := Sm.le (sm_tup (n := 2) fun r hr => smD_sm 1 r (G.ok r hr).2) (by decide)
variable {fE : Addr} {fdE : FuncData}

abbrev s_same_state : Stmt := topS 104
abbrev N_same_state : List Str := ["one", "other", "question"]
theorem sc_same_state : FnScope N_same_state ["one", "other"] (defScope s_same_state) := ⟨rfl, rfl, rfl, by decide +kernel, rfl, by decide +kernel, by decide +kernel⟩
theorem ok_same_state (F : Fun K "same_state" "same_state" s_same_state f fd) (T : TK P w K mg base c0 c1 c2 CP cR cU cN CD) (G_eq : FnOk P w K mg base CX0 1 fE fdE ["self", "other"] (spEq K CP)) (h_eq : PySem.W.findIn K (.ref CP) "__eq__" = some (some (.ref fE))) (hf_eq : PySem.W.isFn K (.ref fE) = true) (B_eq : L2.Binds K fdE ["self", "other"] []) (C_alike : Callee P w K mg base "alike" 1 ["value", "due"] spNever) : FnOk P w K mg base CX0 3 f fd ["one", "other"] (spSame K CP CD) := by
  refine F.ok sc_same_state (fun vs H Q E h => ?_) (fun cdv A outer s H vs Q E hr h => ?_)
  · obtain ⟨F, B, n1, n2, r1, r2, b1, b2, e1, e2, a, b, rfl, _⟩ := h
    rfl
  · obtain ⟨F, B, n1, n2, r1, r2, b1, b2, e1, e2, a, b, rfl, k, d1, d2, G1, G2, q⟩ := h
    have hu64 : (A.deeper (envOfC "same_state" (defScope s_same_state) s.heap.objs.size f cdv)).units + 64 < cLine := hr.units
    refine ⟨_, (pss_cons (ps_if (PW.pt (pw_or (pt_cmpR (Mt.op_ownNe G_eq (hr.mono (by decide)) h_eq hf_eq B_eq T.neP T.mo pass0) (pe_fldK K (pv 0)) (pe_fldK K (pv 1)) (nomark _)) (pw_or1 (pt_cmpR (op_neDK K hu64) (pe_fldK K (pv 0)) (pe_fldK K (pv 1)) (nomark _))))) (pss_one (ps_ret pe_bl)) pss_nil)
      (pss_cons (ps_if (PW.pt (pw_or (pt_cmpR (op_neDK K hu64) (pe_fldK K (pv 0)) (pe_fldK K (pv 1)) (nomark _)) (pw_or1 (pt_cmpR (op_neDK K hu64) (pe_callB (call_lenK K) (by rfl) T.m_len bt_len (pa_cons (pe_fldK K (pv 0)) pa_nil)) (pe_callB (call_lenK K) (by rfl) T.m_len bt_len (pa_cons (pe_fldK K (pv 1)) pa_nil)) (nomark _))))) (pss_one (ps_ret pe_bl)) pss_nil)
      (pss_one (ps_ret (pe_callB (cr_allK K) (by rfl) T.m_all bt_all (pa_cons (pe_lc (own := [("question", 2)]) rfl sc_same_state.nd (pi_seqK K (pe_fldK K (pv 0))) (blkOk_by (own := [("question", 2)]) (N := N_same_state) (sc := defScope s_same_state) (by decide +kernel)) (fun _ _ _ _ _ => pg_name (i := 2) sc_same_state.nd rfl (Or.inl rfl)) (fun _ _ _ _ _ => pts_nil) (fun _ _ _ _ _ => (pe_callC C_alike (hr.mono (by decide)) rfl pass0 (pa_cons (pe_ix (ix_seqK K) (pe_fldK K (pv 0)) (pv 2) (fun _ _ => rfl)) (pa_cons (pe_ix (ix_seqK K) (pe_fldK K (pv 1)) (pv 2) (fun _ _ => rfl)) pa_nil))))) pa_nil)))))), ?_⟩
    obtain ⟨dx, vp, vw, ba, ea, vk, vr, xs, ys, g1, g2, g3, g4, g5, g6⟩ := d1.ex
    obtain ⟨dx', vp', vw', ba', ea', vk', vr', xs', ys', k1, k2, k3, k4, k5, k6⟩ := d2.ex
    have ma := fun H j => (g1 H j).1
    have mb := fun H j => (k1 H j).1
    have mea := fun H j => (g1 H j).2.2
    have meb := fun H j => (k1 H j).2.2
    have sh : ∀ k : Nat, SeqAt.shaped (.int (k : Nat)) = true := fun k => rfl
    have at0 : At F B H B H := At.start k
    refine qv_when (b := !(PyData.eqv (.int (n1 : Nat)) (.int (n2 : Nat)) && PyData.eqv (.tuple r1) (.tuple r2))) at0 (et_is (et_or (et_cmp (ev_op (ev_stP (i := 0) rfl ma T.cD T.n_pairs rfl upc_ins g2) (ev_stP (i := 1) rfl mb T.cD T.n_pairs rfl upc_ins k2) upc_ins (rv_ownNe (sh n1) G1.sm.sh (sh n2) G2.sm.sh))) fun _ => et_is (et_cmp (ed_op (ev_stP (i := 0) (P := DD K (.tuple [])) rfl ma T.cD T.n_watched rfl upc_dd g3) (ev_stP (i := 1) (P := DD K (.tuple [])) rfl mb T.cD T.n_watched rfl upc_dd k3) (rd_neD rfl rfl))) (b' := false) rfl) (by rw [Bool.or_false])) (fun hb B1 H1 e1' w1 => ?_) (fun hb B1 H1 e1' w1 => ?_)
    · refine sv_ret (P := DD K (.bool false)) w1 ed_bl fun v B2 H2 e2' w2 hv => ?_
      obtain rfl := dd_bl hv
      have := q B2 H2 w2.st w2.j
      unfold sameB at this
      rw [show (PyData.eqv (.int (n1 : Nat)) (.int (n2 : Nat)) && PyData.eqv (.tuple r1) (.tuple r2)) = false from nf hb, Bool.false_and] at this
      exact this
    have hb' : (PyData.eqv (.int (n1 : Nat)) (.int (n2 : Nat)) && PyData.eqv (.tuple r1) (.tuple r2)) = true := nt hb
    refine qv_when (b := !(decide (b1.length = b2.length) && decide (e1.length = e2.length))) w1 (et_is (et_or (et_cmp (ed_op (ev_stP (i := 0) (P := DD K (.int (b1.length : Nat))) rfl ma T.cD T.n_many rfl upc_dd (.int _)) (ev_stP (i := 1) (P := DD K (.int (b2.length : Nat))) rfl mb T.cD T.n_many rfl upc_dd (.int _)) (rd_neD rfl rfl))) fun _ => et_cmp (ed_op (ev_stL (K := K) (i := 0) (ba := ea) (xs := ys) rfl ma T.cD T.n_behind rfl mea) (ev_stL (K := K) (i := 1) (ba := ea') (xs := ys') rfl mb T.cD T.n_behind rfl meb) (rd_neD rfl rfl))) (by
      rw [eqv_int, eqv_int, g6, k6, Bool.not_and]
      congr 1 <;> congr 1 <;> exact decide_eq_decide.mpr (by omega))) (fun hc B2 H2 e2' w2 => ?_) (fun hc B2 H2 e2' w2 => ?_)
    · refine sv_ret (P := DD K (.bool false)) w2 ed_bl fun v B3 H3 e3' w3 hv => ?_
      obtain rfl := dd_bl hv
      have := q B3 H3 w3.st w3.j
      unfold sameB at this
      rw [show (decide (b1.length = b2.length) && decide (e1.length = e2.length)) = false from nf hc, Bool.and_false] at this
      exact this
    · refine sv_ret (P := DD K (.bool true)) w2 (ev_cb (eds_cons (ed_is (ed_lcD (K := K) (ds := []) (fun _ => true) (fun d => d) (ev_seqT (ev_stP (i := 0) (P := DD K (.tuple [])) rfl ma T.cD T.n_watched rfl upc_dd (g3.up (e1'.trans e2')))) (by decide) (fun _ => rfl) (fun d v Bd hd _ _ => nomatch hd) (fun d v Bd hd _ _ _ => nomatch hd)) rfl) eds_nil) (rc_all (bs := []))) fun v B3 H3 e3' w3 hv => ?_
      obtain rfl := dd_bl hv
      have := q B3 H3 w3.st w3.j
      unfold sameB at this
      rw [hb', nt hc] at this
      exact this

end
end K50

namespace K50
open PySem PySem.Spec PyProof.Rows L2 Evl Ex Dx StX
open PySem.PyData (strOk)
section
variable {P : Program} {w : World} {K : PySem.W.Frag} {mg : Str → Option Value} {base : Heap} {f : Addr} {fd : FuncData}


/-! ### _law_now, _law_do, _law_deed -/
inductive Ed
  | put (pl rl : PyData)
  | take (pl : PyData)
  | turn (pl rl : PyData)
def edD : Ed → PyData
  | .put pl rl => .tuple [.str "put", .tuple [pl, rl]]
  | .take pl => .tuple [.str "take", .tuple [pl]]
  | .turn pl rl => .tuple [.str "turn", .tuple [pl, rl]]
def edO (n : Nat) (rs : List PyData) : Ed → Oc
  | .put pl rl => putO n rs pl rl
  | .take pl => takeO rs pl
  | .turn pl rl => turnO n rs pl rl
def spLdo (K : PySem.W.Frag) (CP CD c0 cR cU : Addr) : Sp := fun vs H Q E => ∃ (S : Sn) (ve : V) (ed : Ed), vs = [.ref S.d, ve] ∧ At3 K CP CD S H ∧ SG S.n S.rs ∧ Dd K S.B ve (edD ed) ∧ Dn K CP CD c0 cR cU S (edO S.n S.rs ed) Q E
def ocD (n : Nat) : Oc → PyData
  | .kept new => .tuple [.str "kept", .tuple [.int (n : Nat), .tuple new]]
  | .num v => .tuple [.str "number", v]
  | .rule v => .tuple [.str "rule", v]
  | .alone => .tuple [.str "undefined", .str "alone"]
def nxR (rs : List PyData) : Oc → List PyData
  | .kept new => new
  | _ => rs
def nxB (rs : List PyData) (bs : List (List PyData)) : Oc → List (List PyData)
  | .kept _ => bs ++ [rs]
  | _ => bs
def nxE (es : List (List PyData)) : Oc → List (List PyData)
  | .kept _ => []
  | _ => es
def spDeed (K : PySem.W.Frag) (CP CD : Addr) : Sp := fun vs H Q _ => ∃ (S : Sn) (ve : V) (ed : Ed), vs = [.ref S.d, ve] ∧ At3 K CP CD S H ∧ S.bs.length ≤ 900 ∧ SG S.n S.rs ∧ Dd K S.B ve (edD ed) ∧
  ∀ v B' H' L3', Ow S.F S.B0 S.H0 B' H' (L3' ++ S.L) → Ex S.B B' → DkD K CP CD S.n (nxR S.rs (edO S.n S.rs ed)) (nxB S.rs S.bs (edO S.n S.rs ed)) (nxE S.es (edO S.n S.rs ed)) S.d L3' B' → Dd K B' v (ocD S.n (edO S.n S.rs ed)) → Q v H'
theorem er_up {S : Sn} {B2 : Hp} {c : Addr} {f : Str} {v : PyData} {E : XK} (e : Ex S.B B2) (h : Er K S c f v E) : Er K { S with B := B2 } c f v E := fun v' dd B' H1 H' w' e' hv e1 hx => h v' dd B' H1 H' w' (e.trans e') hv e1 hx
theorem dn_up {S : Sn} {B2 : Hp} {o : Oc} {Q : VK} {E : XK} (e : Ex S.B B2) (h : Dn K CP CD c0 cR cU S o Q E) : Dn K CP CD c0 cR cU { S with B := B2 } o Q E := by
  cases o with
  | kept new => exact fun B' H' L3' w' e' d' => h B' H' L3' w' (e.trans e') d'
  | num v => exact er_up e h
  | rule v => exact er_up e h
  | alone => exact er_up e h

abbrev s_law_now : Stmt := topS 119
abbrev N_law_now : List Str := ["desk"]
theorem sc_law_now : FnScope N_law_now ["desk"] (defScope s_law_now) := ⟨rfl, rfl, rfl, by decide +kernel, rfl, by decide +kernel, by decide +kernel⟩
theorem ok_law_now (F : Fun K "_law_now" "_law_now" s_law_now f fd) (T : TK P w K mg base c0 c1 c2 CP cR cU cN CD) : FnOk P w K mg base CX0 1 f fd ["desk"] (spNow K CP CD) := by
  refine F.ok sc_law_now (fun vs H Q E h => ?_) (fun cdv A outer s H vs Q E hr h => ?_)
  · obtain ⟨F, B, n, rs, bs, es, d, rfl, _⟩ := h
    rfl
  · obtain ⟨F, B, n, rs, bs, es, d, rfl, k, st, q⟩ := h
    refine ⟨_, (pss_one (ps_ret (pe_tup (pa_cons (pe_fldK K (pe_fldK K (pv 0))) (pa_cons (pe_fldK K (pe_fldK K (pv 0))) pa_nil))))), ?_⟩
    obtain ⟨dx, vp, vw, ba, ea, vk, vr, xs, ys, h1, h2, h3, h4, h5, h6⟩ := st.ex
    have prs : EV F (tFld K (tVar 0) "pairs") [some (.ref d)] B (InsP K CP (.int (n : Nat)) (.tuple rs)) := ev_stP rfl (fun H j => (h1 H j).1) T.cD T.n_pairs rfl upc_ins h2
    refine sv_ret (P := DD K (.tuple [.int (n : Nat), .tuple rs])) (At.start k) (ed_tup (eds_cons (ev_fk T.toTP prs) (eds_cons (ev_fr T.toTP prs) eds_nil))) fun v B1 H1 e1 a1 hv => q v B1 H1 a1.st a1.j hv
theorem ed_now {F : Fm} {σ : L2.St} {B : Hp} {i : Nat} {n : Nat} {rs : List PyData} {bs es : List (List PyData)} {d : Addr} (hi : σ[i]? = some (some (.ref d))) (st : StD K CP CD F B n rs bs es d) : ED F K (tCall (spNow K CP CD) [] E0 (tCons (tVar i) tNil)) σ B (.tuple [.int (n : Nat), .tuple rs]) := fun B1 e1 H1 j1 Q1 q1 =>
  ⟨.ref d, hi, F, B1, n, rs, bs, es, d, rfl, j1, st.up e1, fun v B' H' s k h => q1 v B' H' s k h⟩
theorem ed_rep {F : Fm} {σ : L2.St} {B : Hp} {i : Nat} {n : Nat} {rs : List PyData} {bs es : List (List PyData)} {d : Addr} (hi : σ[i]? = some (some (.ref d))) (st : StD K CP CD F B n rs bs es d) : ED F K (Mt.tMethS CD "report" (spRep K CP CD) (fun _ => E0) (tVar i) tNil) σ B (.tuple []) := fun B1 e1 H1 j1 Q1 q1 => by
  obtain ⟨dx, vp, vw, ba, ea, vk, vr, xs, ys, h1, _⟩ := st.ex
  exact ⟨.ref d, hi, d, dx, _, rfl, (h1 H1 j1.j).1, rfl, F, B1, n, rs, bs, es, d, rfl, j1, st.up e1, fun v h => q1 v B1 H1 (Step.refl j1.e) j1 h⟩
theorem ed_same {F : Fm} {σ : L2.St} {B : Hp} {i j n1 n2 : Nat} {r1 r2 : List PyData} {b1 b2 e1 e2 : List (List PyData)} {a b : Addr} (hi : σ[i]? = some (some (.ref a))) (hj : σ[j]? = some (some (.ref b))) (s1 : StD K CP CD F B n1 r1 b1 e1 a) (s2 : StD K CP CD F B n2 r2 b2 e2 b) (G1 : SG n1 r1) (G2 : SG n2 r2) : ED F K (tCall (spSame K CP CD) [] E0 (tCons (tVar i) (tCons (tVar j) tNil))) σ B (.bool (sameB n1 n2 r1 r2 b1 b2 e1 e2)) := fun B1 e0 H1 j1 Q1 q1 =>
  ⟨.ref a, hi, .ref b, hj, F, B1, n1, n2, r1, r2, b1, b2, e1, e2, a, b, rfl, j1, s1.up e0, s2.up e0, G1, G2, fun B' H' s k => q1 _ B' H' s k (.bl _)⟩

abbrev s_law_do : Stmt := topS 118
abbrev N_law_do : List Str := ["desk", "edit", "kind", "given"]
theorem sc_law_do : FnScope N_law_do ["desk", "edit"] (defScope s_law_do) := ⟨rfl, rfl, rfl, by decide +kernel, rfl, by decide +kernel, by decide +kernel⟩
theorem ok_law_do (F : Fun K "_law_do" "_law_do" s_law_do f fd) (T : TK P w K mg base c0 c1 c2 CP cR cU cN CD) (M_put : Mt.MethX P w K mg base (L2.CX P w) CD "put" 8 ["self", "place", "rule"] (spPut K CP CD c0 cR cU putO)) (M_turn : Mt.MethX P w K mg base (L2.CX P w) CD "turn" 8 ["self", "place", "rule"] (spPut K CP CD c0 cR cU turnO)) (M_take : Mt.MethX P w K mg base (L2.CX P w) CD "take" 8 ["self", "place"] (spTk K CP CD c0 cR cU)) : FnOk P w K mg base (L2.CX P w) 9 f fd ["desk", "edit"] (spLdo K CP CD c0 cR cU) := by
  refine F.okX sc_law_do (fun vs H Q E h => ?_) (fun cdv A outer s H vs Q E hr h => ?_)
  · obtain ⟨S, ve, ed, rfl, _⟩ := h
    rfl
  · obtain ⟨⟨F, B0, H0, B, L3, L, n, rs, bs, es, d⟩, ve, ed, rfl, ⟨w, hd, lb, le⟩, G, hv, q⟩ := h
    have hu64 : (A.deeper (envOfC "_law_do" (defScope s_law_do) s.heap.objs.size f cdv)).units + 64 < cLine := hr.units
    refine ⟨_, (pss_cons (ps_asg (pv 1) (pg_tupK K (n := 2) rfl (pgs_cons (pg_name (i := 2) sc_law_do.nd rfl (Or.inl rfl)) (pgs_cons (pg_name (i := 3) sc_law_do.nd rfl (Or.inl rfl)) pgs_nil))))
      (pss_cons (ps_if (pt_cmpR (op_eqDK K hu64) (pv 2) pe_str (nomark _)) (pss_one (ps_ret (Mt.pe_methX M_put T.cD (hr.mono (by decide)) (fun σ => passAt (takes_of rfl rfl rfl rfl) σ) (pv 0) (pa_cons (pe_ix (ix_seqK K) (pv 3) pe_int (fun _ _ => rfl)) (pa_cons (pe_ix (ix_seqK K) (pv 3) pe_int (fun _ _ => rfl)) pa_nil))))) pss_nil)
      (pss_one (ps_ret (pe_ifExp (pt_cmpR (op_eqDK K hu64) (pv 2) pe_str (nomark _)) (Mt.pe_methX M_take T.cD (hr.mono (by decide)) (fun σ => passAt (takes_of rfl rfl rfl rfl) σ) (pv 0) (pa_cons (pe_ix (ix_seqK K) (pv 3) pe_int (fun _ _ => rfl)) pa_nil)) (Mt.pe_methX M_turn T.cD (hr.mono (by decide)) (fun σ => passAt (takes_of rfl rfl rfl rfl) σ) (pv 0) (pa_cons (pe_ix (ix_seqK K) (pv 3) pe_int (fun _ _ => rfl)) (pa_cons (pe_ix (ix_seqK K) (pv 3) pe_int (fun _ _ => rfl)) pa_nil)))))))), ?_⟩
    obtain ⟨dx, vp, vw, ba, ea, vk, vr, xs, ys, e3, h2, h3, h4, h5, h6⟩ := id hd.ex
    dsimp only at e3 w q lb le G hv hd
    subst e3
    have here : ∀ {B1 H1 : Hp}, Ow F B0 H0 B1 H1 ([(d, .ins CD dx (dkF vp vw bs.length ba ea vk vr)), (ba, .lst xs), (ea, .lst ys)] ++ L) → H1 d = some (.ins CD dx (dkF vp vw bs.length ba ea vk vr)) := fun w => (w.ow (d, _) List.mem_cons_self).2.2.2.1
    have split : ∃ (k : Str) (gs : List PyData), edD ed = .tuple [.str k, .tuple gs] ∧ ((k = "put" ∧ ∃ pl rl, gs = [pl, rl] ∧ ed = .put pl rl) ∨ (k = "take" ∧ ∃ pl, gs = [pl] ∧ ed = .take pl) ∨ (k = "turn" ∧ ∃ pl rl, gs = [pl, rl] ∧ ed = .turn pl rl)) := by
      cases ed with
      | put pl rl => exact ⟨"put", _, rfl, .inl ⟨rfl, pl, rl, rfl, rfl⟩⟩
      | take pl => exact ⟨"take", _, rfl, .inr (.inl ⟨rfl, pl, rfl, rfl⟩)⟩
      | turn pl rl => exact ⟨"turn", _, rfl, .inr (.inr ⟨rfl, pl, rl, rfl, rfl⟩)⟩
    obtain ⟨k, gs, hed, hk⟩ := split
    refine wo_unpP w (ed_is (ed_var (i := 1) rfl hv) hed) fun v2 v3 B1 H1 w1 e1 g2 g3 => ?_
    have kk : (k = "put" ∧ (k == ("put" : Str)) = true) ∨ (k = "take" ∧ (k == ("put" : Str)) = false ∧ (k == ("take" : Str)) = true) ∨ (k = "turn" ∧ (k == ("put" : Str)) = false ∧ (k == ("take" : Str)) = false) := by
      rcases hk with ⟨rfl, _⟩ | ⟨rfl, _⟩ | ⟨rfl, _⟩
      · exact .inl ⟨rfl, by decide +kernel⟩
      · exact .inr (.inl ⟨rfl, by decide +kernel, by decide +kernel⟩)
      · exact .inr (.inr ⟨rfl, by decide +kernel, by decide +kernel⟩)
    have ks : SeqAt.shaped (.str k) = true := by
      rcases hk with ⟨rfl, _⟩ | ⟨rfl, _⟩ | ⟨rfl, _⟩ <;> decide +kernel
    have eqs : ∀ u : Str, PyData.eqv (.str k) (.str u) = (k == u) := fun u => by simp [PyData.eqv]
    refine wo_when (b := k == ("put" : Str)) w1 (et_is (et_cmp (ed_op (ed_var (i := 2) rfl g2) ed_str (rd_eqD ks (by decide +kernel)))) (eqs _)) (fun hb B2 H2 w2 e2 => ?_) (fun hb B2 H2 w2 e2 => ?_)
    · rcases hk with ⟨rfl, pl, rl, rfl, rfl⟩ | ⟨rfl, _⟩ | ⟨rfl, _⟩
      · refine ⟨.ref d, rfl, d, dx, _, rfl, here w2, rfl, ?_⟩
        have tp : EDs (F.wL _ w2.nt) K (tCons (tOp (rIx K) (tVar 3) (tC (.int 0))) (tCons (tOp (rIx K) (tVar 3) (tC (.int 1))) tNil)) [some (.ref d), some ve, some v2, some v3] B2 [pl, rl] := eds_cons (ed_op (ed_var (i := 3) rfl (g3.up e2)) ed_int (rd_ixT at2_0)) (eds_cons (ed_op (ed_var (i := 3) rfl (g3.up e2)) ed_int (rd_ixT at2_1)) eds_nil)
        refine tp B2 (Ex.refl B2) H2 w2.ok _ fun vs4 B4 H4 s4 k4 g4 => ?_
        obtain ⟨v4, v5, rfl, g4, g5⟩ := arg2 g4
        have e4 := e1.trans (e2.trans s4.bb)
        exact ⟨⟨F, B0, H0, B4, _, L, n, rs, bs, es, d⟩, v4, v5, pl, rl, rfl, ⟨w2.back s4 k4, hd.up e4, lb, le⟩, G, g4, g5, dn_up e4 q⟩
      · exact absurd hb (by decide +kernel)
      · exact absurd hb (by decide +kernel)
    · rcases hk with ⟨rfl, _⟩ | ⟨rfl, pl, rfl, rfl⟩ | ⟨rfl, pl, rl, rfl, rfl⟩
      · exact absurd hb (by decide +kernel)
      · show tIf (tTest (tOp (rEqD K) (tVar 2) (tC (.str "take")))) _ _ [some (.ref d), some ve, some v2, some v3] H2 _
        refine (et_is (b' := true) (et_cmp (K := K) (ed_op (ed_var (i := 2) rfl (g2.up e2)) ed_str (rd_eqD ks (by decide +kernel)))) (by rw [eqs]; decide +kernel)) B2 (Ex.refl B2) H2 w2.ok _ fun B3 H3 s3 k3 => ?_
        have w3 := w2.back s3 k3
        rw [if_pos rfl]
        refine ⟨.ref d, rfl, d, dx, _, rfl, here w3, rfl, ?_⟩
        have tp : EDs (F.wL _ w3.nt) K (tCons (tOp (rIx K) (tVar 3) (tC (.int 0))) tNil) [some (.ref d), some ve, some v2, some v3] B3 [pl] := eds_cons (ed_op (ed_var (i := 3) rfl (g3.up (e2.trans s3.bb))) ed_int (rd_ixT (atI_nat (j := 0) rfl))) eds_nil
        refine tp B3 (Ex.refl B3) H3 w3.ok _ fun vs4 B4 H4 s4 k4 g4 => ?_
        obtain ⟨v4, rfl, g4'⟩ := arg1 (show DdAll K B4 vs4 [pl] from g4)
        have e4 := e1.trans (e2.trans (s3.bb.trans s4.bb))
        exact ⟨⟨F, B0, H0, B4, _, L, n, rs, bs, es, d⟩, v4, pl, rfl, ⟨w3.back s4 k4, hd.up e4, lb, le⟩, G, g4', dn_up e4 q⟩
      · show tIf (tTest (tOp (rEqD K) (tVar 2) (tC (.str "take")))) _ _ [some (.ref d), some ve, some v2, some v3] H2 _
        refine (et_is (b' := false) (et_cmp (K := K) (ed_op (ed_var (i := 2) rfl (g2.up e2)) ed_str (rd_eqD ks (by decide +kernel)))) (by rw [eqs]; decide +kernel)) B2 (Ex.refl B2) H2 w2.ok _ fun B3 H3 s3 k3 => ?_
        have w3 := w2.back s3 k3
        rw [if_neg (by decide)]
        refine ⟨.ref d, rfl, d, dx, _, rfl, here w3, rfl, ?_⟩
        have tp : EDs (F.wL _ w3.nt) K (tCons (tOp (rIx K) (tVar 3) (tC (.int 0))) (tCons (tOp (rIx K) (tVar 3) (tC (.int 1))) tNil)) [some (.ref d), some ve, some v2, some v3] B3 [pl, rl] := eds_cons (ed_op (ed_var (i := 3) rfl (g3.up (e2.trans s3.bb))) ed_int (rd_ixT at2_0)) (eds_cons (ed_op (ed_var (i := 3) rfl (g3.up (e2.trans s3.bb))) ed_int (rd_ixT at2_1)) eds_nil)
        refine tp B3 (Ex.refl B3) H3 w3.ok _ fun vs4 B4 H4 s4 k4 g4 => ?_
        obtain ⟨v4, v5, rfl, g4, g5⟩ := arg2 g4
        have e4 := e1.trans (e2.trans (s3.bb.trans s4.bb))
        exact ⟨⟨F, B0, H0, B4, _, L, n, rs, bs, es, d⟩, v4, v5, pl, rl, rfl, ⟨w3.back s4 k4, hd.up e4, lb, le⟩, G, g4, g5, dn_up e4 q⟩

abbrev s_law_deed : Stmt := topS 120
abbrev N_law_deed : List Str := ["desk", "edit", "told", "e"]
theorem sc_law_deed : FnScope N_law_deed ["desk", "edit"] (defScope s_law_deed) := ⟨rfl, rfl, rfl, by decide +kernel, rfl, by decide +kernel, by decide +kernel⟩
theorem ok_law_deed (F : Fun K "_law_deed" "_law_deed" s_law_deed f fd) (T : TK P w K mg base c0 c1 c2 CP cR cU cN CD) (C_law_do : CalleeX P w K mg base "_law_do" 9 ["desk", "edit"] (spLdo K CP CD c0 cR cU)) (C_law_now : Callee P w K mg base "_law_now" 1 ["desk"] (spNow K CP CD)) : FnOk P w K mg base CX0 10 f fd ["desk", "edit"] (spDeed K CP CD) := by
  refine F.ok sc_law_deed (fun vs H Q E h => ?_) (fun cdv A outer s H vs Q E hr h => ?_)
  · obtain ⟨S, ve, ed, rfl, _⟩ := h
    rfl
  · obtain ⟨⟨F, B0, H0, B, L3, L, n, rs, bs, es, d⟩, ve, ed, rfl, ⟨w, hd, lb, le⟩, l9, G, hv, q⟩ := h
    have hu64 : (A.deeper (envOfC "_law_deed" (defScope s_law_deed) s.heap.objs.size f cdv)).units + 64 < cLine := hr.units
    refine ⟨_, (pss_cons (ps_try_names (i := 3) (Wout := fun _ _ _ _ => False) rfl rfl sc_law_deed.nd rfl rfl takes0 (fun W pn xe tk _ => (pss_one (ps_set (i := 2) sc_law_deed.nd rfl (Or.inl rfl) (pe_callX C_law_do (hr.mono (by decide)) rfl (fun σ => passAt tk σ) (pa_cons (pv 0) (pa_cons (pv 1) pa_nil))))))
        (.cons ⟨rfl, by decide, Or.inl T.x_InvalidNumber.g⟩ (fun a oe cls d pn hz hf => (pss_one (ps_ret (pe_tup (pa_cons pe_str (pa_cons (pe_xf T.x_InvalidNumber.xf T.x_InvalidNumber.no hz hf (pv 3)) pa_nil)))))) 
        (.cons ⟨rfl, by decide, Or.inl T.x_InvalidRule.g⟩ (fun a oe cls d pn hz hf => (pss_one (ps_ret (pe_tup (pa_cons pe_str (pa_cons (pe_xf T.x_InvalidRule.xf T.x_InvalidRule.no hz hf (pv 3)) pa_nil)))))) 
        (.cons ⟨rfl, by decide, Or.inl T.x_Undefined.g⟩ (fun a oe cls d pn hz hf => (pss_one (ps_ret (pe_tup (pa_cons pe_str (pa_cons (pe_xf T.x_Undefined.xf T.x_Undefined.no hz hf (pv 3)) pa_nil)))))) .nil))))
      (pss_one (ps_ret (pe_tup (pa_cons (pe_ifExp (pt_cmpR op_isN (pv 2) pe_non (nomark _)) pe_str pe_str) (pa_cons (pe_callC C_law_now (hr.mono (by decide)) rfl pass0 (pa_cons (pv 0) pa_nil)) pa_nil)))))), ?_⟩
    dsimp only at w hd lb le l9 G hv q
    -- an error told
    have fin : ∀ (B' H1 H' : Hp) (tag : Str) (d0 : PyData) (v' : V) (p : Addr), edO n rs ed = edO n rs ed → Ow F B0 H0 B' H1 (L3 ++ L) → Ex B B' → Dd K B' v' d0 → Ex H1 H' → tag.length ≤ sizeLine → nxR rs (edO n rs ed) = rs → nxB rs bs (edO n rs ed) = bs → nxE es (edO n rs ed) = es → ocD n (edO n rs ed) = .tuple [.str tag, d0] → H' p = none → Q (.ref p) (upd H' p (.tup [.str tag, v'])) := by
      intro B' H1 H' tag d0 v' p _ w' e' hv' eH ht r1 r2 r3 r4 hp
      have w2 := w'.ext eH
      have k2 := w2.ok
      have bp : B' p = none := fresh_back k2.e hp
      have w3 := w2.back (Step.alloc k2.e hp (o := .tup [.str tag, v'])) (k2.alloc hp)
      refine q _ _ _ L3 w3 (e'.trans (Ex.new bp)) ?_ ?_
      · rw [r1, r2, r3]
        exact hd.up (e'.trans (Ex.new bp))
      · rw [r4]
        exact .tup (ta_of upd_same) (by show 2 ≤ sizeLine; decide) (.cons (.str _ ht) (.cons (hv'.up (Ex.new bp)) .nil))
    refine ⟨.ref d, rfl, ve, rfl, ⟨F, B0, H0, B, L3, L, n, rs, bs, es, d⟩, ve, ed, rfl, ⟨w, hd, lb, le⟩, G, hv, ?_⟩
    show Dn K CP CD c0 cR cU ⟨F, B0, H0, B, L3, L, n, rs, bs, es, d⟩ (edO n rs ed) _ _
    cases ho : edO n rs ed with
    | kept new =>
      rw [ho] at q
      intro B' H' L3' w' e' d'
      have st : ∀ {B1 : Hp}, Ex B' B1 → StD K CP CD (F.wL (L3' ++ L) w'.nt) B1 n new (bs ++ [rs]) [] d := fun e => (d'.st (fun p hp => List.mem_append_left _ hp)).up e
      refine wo_ret (P := DD K (.tuple [.str "kept", .tuple [.int (n : Nat), .tuple new]])) w' (ed_tup (eds_cons (ev_if (b := true) (et_cmp (K := K) (ed_op (ed_var (i := 2) rfl .non) ed_non rd_isN)) (fun _ => ed_str) (fun h => nomatch h)) (eds_cons (ed_now (i := 0) rfl (st (Ex.refl B'))) eds_nil))) fun v B1 H1 w1 e1 hv1 => ?_
      exact q v B1 H1 L3' w1 (e'.trans e1) (d'.up e1) hv1
    | num v0 =>
      rw [ho] at fin
      intro v' dd B' H1 H' w' e' hv' eH hx
      exact ⟨true, T.m00, fun _ a0 ha0 => ⟨.ref a0, rfl, rfl, rfl, dd, _, v', rfl, hx, rfl, by show 2 ≤ sizeLine; decide, fun p2 hp2 => fin B' H1 H' "number" v0 v' p2 rfl w' e' hv' eH (by decide) rfl rfl rfl rfl hp2⟩, fun h => nomatch h⟩
    | rule v0 =>
      rw [ho] at fin
      intro v' dd B' H1 H' w' e' hv' eH hx
      exact ⟨false, T.mR0, fun h => (nomatch h), fun _ => ⟨true, T.mRR, fun _ a0 ha0 => ⟨.ref a0, rfl, rfl, rfl, dd, _, v', rfl, hx, rfl, by show 2 ≤ sizeLine; decide, fun p2 hp2 => fin B' H1 H' "rule" v0 v' p2 rfl w' e' hv' eH (by decide) rfl rfl rfl rfl hp2⟩, fun h => nomatch h⟩⟩
    | alone =>
      rw [ho] at fin
      intro v' dd B' H1 H' w' e' hv' eH hx
      exact ⟨false, T.mU0, fun h => (nomatch h), fun _ => ⟨false, T.mUR, fun h => (nomatch h), fun _ => ⟨true, T.mUU, fun _ a0 ha0 => ⟨.ref a0, rfl, rfl, rfl, dd, _, v', rfl, hx, rfl, by show 2 ≤ sizeLine; decide, fun p2 hp2 => fin B' H1 H' "undefined" (.str "alone") v' p2 rfl w' e' hv' eH (by decide) rfl rfl rfl rfl hp2⟩, fun h => nomatch h⟩⟩⟩

end
end K50

namespace K50
open PySem PySem.Spec PyProof.Rows L2 Evl Ex Dx StX
open PySem.PyData (strOk)
section
variable {P : Program} {w : World} {K : PySem.W.Frag} {mg : Str → Option Value} {base : Heap} {f : Addr} {fd : FuncData}


theorem ev_tup2 {F : Fm} {σ : L2.St} {B : Hp} {ta tb : TE} {Pa Pb : PyData → Prop} (ha : EV F ta σ B (fun v B => ∃ d, Dd K B v d ∧ Pa d)) (hb : EV F tb σ B (fun v B => ∃ d, Dd K B v d ∧ Pb d)) :
    EV F (tTup (tCons ta (tCons tb tNil))) σ B (fun v B => ∃ x y, Dd K B v (.tuple [x, y]) ∧ Pa x ∧ Pb y) := fun B1 e0 H j Q q =>
  ha B1 e0 H j _ fun va B2 H2 s2 j2 ⟨x, h2, px⟩ => hb B2 (e0.trans s2.bb) H2 j2 _ fun vb B3 H3 s3 j3 ⟨y, h3, py⟩ =>
    ⟨by show 2 ≤ sizeLine; decide, fun p hp => q (.ref p) _ _ ((s2.trans s3).trans (Step.alloc j3.e hp)) (j3.alloc hp) ⟨x, y, .tup (ta_of upd_same) (by show 2 ≤ sizeLine; decide) (.cons ((h2.up s3.bb).up (Ex.new (fresh_back j3.e hp))) (.cons (h3.up (Ex.new (fresh_back j3.e hp))) .nil)), px, py⟩⟩


/-! ### _law_sparse -/

/-! ### drawn edits -/
def spDr (K : PySem.W.Frag) : Sp := fun vs H Q _ => ∃ (p : Addr) (vg : V) (B : Hp) (n : Nat) (rs : List PyData), vs = [.ref p, vg] ∧ Ok (Fm.box p) B H ∧ Dd K B vg (.tuple [.int (n : Nat), .tuple rs]) ∧ (1 ≤ n ∧ n ≤ 8) ∧ ∀ v' B' H' r, Step (fun a => a = p) B H B' H' → Ok (Fm.box p) B' H' → Dd K B' v' r → RG n r → Q v' H'
theorem l8_cases {u : Str} (h : u ∈ L8) : (inS u WSH = true) ∨ (inS u WSH = false ∧ inS u TSH = true) ∨ (inS u WSH = false ∧ inS u TSH = false ∧ inS u OSH = true) := by
  have : ∀ u ∈ L8, (inS u WSH = true) ∨ (inS u WSH = false ∧ inS u TSH = true) ∨ (inS u WSH = false ∧ inS u TSH = false ∧ inS u OSH = true) := by decide +kernel
  exact this u h

abbrev s_law_drawn_rule : Stmt := topS 115
abbrev N_law_drawn_rule : List Str := ["box", "grammar", "kinds", "word", "rule"]
theorem sc_law_drawn_rule : FnScope N_law_drawn_rule ["box", "grammar"] (defScope s_law_drawn_rule) := ⟨rfl, rfl, rfl, by decide +kernel, rfl, by decide +kernel, by decide +kernel⟩
theorem ok_drawn_rule (F : Fun K "_law_drawn_rule" "_law_drawn_rule" s_law_drawn_rule f fd) (T : TC K mg) (C_law_take : Callee P w K mg base "_law_take" 1 ["box", "many"] (spTake K)) (C_law_pick : Callee P w K mg base "_law_pick" 2 ["box", "some"] (spPick K)) : FnOk P w K mg base CX0 3 f fd ["box", "grammar"] (spDr K) := by
  refine F.ok sc_law_drawn_rule (fun vs H Q E h => ?_) (fun cdv A outer s H vs Q E hr h => ?_)
  · obtain ⟨p, vg, B, n, rs, rfl, _⟩ := h
    rfl
  · obtain ⟨p, vg, B, n, rs, rfl, k, hg, ⟨n1, n8⟩, q⟩ := h
    have hu64 : (A.deeper (envOfC "_law_drawn_rule" (defScope s_law_drawn_rule) s.heap.objs.size f cdv)).units + 64 < cLine := hr.units
    refine ⟨_, (pss_cons (ps_set (i := 2) sc_law_drawn_rule.nd rfl (Or.inl rfl) (pe_ix (ix_seqK K) (pv 1) pe_int (fun _ _ => rfl)))
      (pss_cons (ps_set (i := 3) sc_law_drawn_rule.nd rfl (Or.inl rfl) (pe_callC C_law_pick (hr.mono (by decide)) rfl pass0 (pa_cons (pv 0) (pa_cons (pe_lst (pa_cons pe_str (pa_cons pe_str (pa_cons pe_str (pa_cons pe_str (pa_cons pe_str (pa_cons pe_str (pa_cons pe_str (pa_cons pe_str pa_nil))))))))) pa_nil))))
      (pss_cons (ps_set (i := 4) sc_law_drawn_rule.nd rfl (Or.inl rfl) (pe_tup (pa_cons (pe_callC C_law_take (hr.mono (by decide)) rfl pass0 (pa_cons (pv 0) (pa_cons (pv 2) pa_nil))) (pa_cons (pv 3) (pa_cons (pe_callC C_law_take (hr.mono (by decide)) rfl pass0 (pa_cons (pv 0) (pa_cons (pv 2) pa_nil))) pa_nil)))))
      (pss_cons (ps_if (pt_cmpR (op_inK K) (pv 3) (pe_lst (pa_cons pe_str (pa_cons pe_str pa_nil))) (by rfl)) (pss_one (ps_ret (pe_tup (pa_cons (pe_ix (ix_seqK K) (pv 4) pe_int (fun _ _ => rfl)) (pa_cons (pv 3) (pa_cons (pe_callC C_law_pick (hr.mono (by decide)) rfl pass0 (pa_cons (pv 0) (pa_cons (pe_lst (pa_cons pe_str (pa_cons pe_str (pa_cons pe_str (pa_cons pe_str pa_nil))))) pa_nil))) pa_nil)))))) pss_nil)
      (pss_one (ps_ret (pe_op (op_addK K) (pv 4) (pe_ifExp (pt_cmpR (op_inK K) (pv 3) (pe_lst (pa_cons pe_str (pa_cons pe_str (pa_cons pe_str pa_nil)))) (by rfl)) (pe_tup (pa_cons (pe_callC C_law_take (hr.mono (by decide)) rfl pass0 (pa_cons (pv 0) (pa_cons (pv 2) pa_nil))) pa_nil)) (pe_tup pa_nil))))))))), ?_⟩
    have a : At (Fm.box p) B H B H := At.start k
    refine qv_asg (P := DD K (.int (n : Nat))) a (ed_op (ed_var (i := 1) rfl hg) ed_int (rd_ixT at2_0)) fun vn B1 H1 e1 a1 hn => ?_
    obtain rfl := dd_int hn
    refine qv_asg (P := fun v _ => ∃ wd : Str, v = .str wd ∧ wd ∈ L8) a1 ((ev_pick (K := K) (i := 0) (d := .list (L8.map .str)) rfl (ed_lst (eds_cons ed_str (eds_cons ed_str (eds_cons ed_str (eds_cons ed_str (eds_cons ed_str (eds_cons ed_str (eds_cons ed_str (eds_cons ed_str eds_nil))))))))) (.inl rfl) (by decide) (by decide)).imp fun v B2 _ ⟨x, hx, hv⟩ => ?_) fun vwd B2 H2 e2 a2 ⟨wd, hwd, h8⟩ => ?_
    · obtain ⟨u, hu, rfl⟩ := List.mem_map.mp hx
      exact ⟨u, (dd_str hv).1, hu⟩
    subst hwd
    have l8 := l8_ok wd h8
    have wl : wd.length ≤ sizeLine := by rw [sizeLine_eq]; have := l8.2.1; omega
    have takek : ∀ (σ : L2.St) B5, σ[0]? = some (some (V.ref p)) → σ[2]? = some (some (V.int (n : Nat))) → EV (Fm.box p) (tCall (spTake K) [] E0 (tCons (tVar 0) (tCons (tVar 2) tNil))) σ B5 (fun v B => ∃ d, Dd K B v d ∧ ∃ c : Int, d = .int c ∧ 0 ≤ c ∧ c < (n : Nat)) := fun σ B5 h2 h3 => (evp_take (K := K) h2 (ed_var h3 (.int (n : Nat))) (by omega) (by omega)).imp fun v B1 _ ⟨c, hc, c0, c1⟩ => ⟨.int c, hc, c, rfl, c0, c1⟩
    have edw : ∀ (σ : L2.St) B7, σ[3]? = some (some (V.str wd)) → EV (Fm.box p) (tVar 3) σ B7 (fun v B => ∃ d, Dd K B v d ∧ d = .str wd) := fun σ B7 h7 => ev_any (ed_var h7 (.str wd wl))
    refine qv_asg a2 (ev_tup3 (takek _ _ rfl rfl) (edw _ _ rfl) (takek _ _ rfl rfl)) fun vr B3 H3 e3 a3 hh3 => ?_
    obtain ⟨_, _, _, hvr, ⟨k0, rfl, k00, k01⟩, rfl, c, rfl, c0, c1⟩ := hh3
    refine qv_when (b := inS wd WSH) a3 (et_cmp (inSL (ed_var (i := 3) rfl (.str wd wl)) pyStr2)) (fun hb B4 H4 e4 a4 => ?_) (fun hb B4 H4 e4 a4 => ?_)
    · refine sv_ret a4 (ev_tup3 (ev_any (ed_op (ed_var (i := 4) rfl (hvr.up e4)) ed_int (rd_ixT at3_0))) (edw _ _ rfl) ((ev_pick (K := K) (i := 0) (d := .list ((["a", "ab", "b", "aab"] : List Str).map .str)) rfl (ed_lst (eds_cons ed_str (eds_cons ed_str (eds_cons ed_str (eds_cons ed_str eds_nil))))) (.inl rfl) (by decide) (by decide)).imp (Z := fun v B => ∃ d, Dd K B v d ∧ ∃ u, d = .str u ∧ u ∈ W4) fun v B2 _ ⟨x, hx, hv⟩ => ?_)) fun v5 B5 H5 e5 a5 hh5 => ?_
      · obtain ⟨u, hu, rfl⟩ := List.mem_map.mp hx
        exact ⟨_, hv, u, rfl, (by decide +kernel : ∀ u ∈ (["a", "ab", "b", "aab"] : List Str), u ∈ W4) u hu⟩
      · obtain ⟨_, _, _, hv5, rfl, rfl, u, rfl, hu⟩ := hh5
        exact q v5 B5 H5 _ a5.st a5.j hv5 (rg_word n8 k00 k01 (inS_iff.mp hb) h8 hu)
    · rcases l8_cases h8 with h | ⟨_, h2⟩ | ⟨_, h2, h3⟩
      · rw [h] at hb; cases hb
      · refine sv_ret (P := fun v B => ∃ d : Int, Dd K B v (.tuple [.int k0, .str wd, .int c, .int d]) ∧ 0 ≤ d ∧ d < (n : Nat)) a4 (ev_op (P := DD K (.tuple [.int k0, .str wd, .int c])) (ed_var (i := 4) rfl (hvr.up e4)) (ev_if (b := true) (et_is (et_cmp (inSL (ed_var (i := 3) rfl (.str wd wl)) pyStr)) h2) (fun _ => ev_tup1 (takek _ _ rfl rfl)) (fun h => nomatch h)) upc_dd ?_) fun v5 B5 H5 e5 a5 ⟨d, hv5, d0, d1⟩ => q v5 B5 H5 _ a5.st a5.j hv5 (rg_two n8 k00 k01 (inS_iff.mp h2) h8 c0 c1 d0 d1)
        intro B10 e10 H10 u w10 j10 hu hhx Q q
        obtain ⟨_, hx, d, rfl, d0, d1⟩ := hhx
        exact rd_addT (F := Fm.box p) (K := K) (B := B10) (by show 4 ≤ 16777216; decide) B10 (Ex.refl B10) H10 u w10 j10 hu hx Q fun z B11 H11 s11 j11 g11 => q z B11 H11 s11 j11 ⟨d, g11, d0, d1⟩
      · refine sv_ret (P := DD K (.tuple [.int k0, .str wd, .int c])) a4 (ed_is (ed_op (ed_var (i := 4) rfl (hvr.up e4)) (ev_if (b := false) (et_is (et_cmp (inSL (ed_var (i := 3) rfl (.str wd wl)) pyStr)) h2) (fun h => nomatch h) (fun _ => ed_tup eds_nil)) (rd_addT (by show 3 ≤ 16777216; decide))) rfl) fun v5 B5 H5 e5 a5 hv5 => q v5 B5 H5 _ a5.st a5.j hv5 (rg_one n8 k00 k01 (inS_iff.mp h3) h8 c0 c1)


/-- an edit that the law draws -/
def LEd (n : Nat) (m : Nat) : Ed → Prop
  | .put pl rl => ∃ i : Int, pl = .int i ∧ 0 ≤ i ∧ i < (m : Nat) + 2 ∧ RG n rl
  | .take pl => ∃ i : Int, pl = .int i ∧ 0 ≤ i ∧ i < (m : Nat) + 2
  | .turn pl rl => ∃ i : Int, pl = .int i ∧ 0 ≤ i ∧ i < (m : Nat) + 2 ∧ RG n rl
def spEdt (K : PySem.W.Frag) : Sp := fun vs H Q _ => ∃ (p : Addr) (vg : V) (B : Hp) (n : Nat) (rs : List PyData), vs = [.ref p, vg] ∧ Ok (Fm.box p) B H ∧ Dd K B vg (.tuple [.int (n : Nat), .tuple rs]) ∧ SG n rs ∧ ∀ v' B' H' ed, Step (fun a => a = p) B H B' H' → Ok (Fm.box p) B' H' → Dd K B' v' (edD ed) → LEd n rs.length ed → Q v' H'

abbrev s_law_edit : Stmt := topS 116
abbrev N_law_edit : List Str := ["box", "grammar", "many", "kind"]
theorem sc_law_edit : FnScope N_law_edit ["box", "grammar"] (defScope s_law_edit) := ⟨rfl, rfl, rfl, by decide +kernel, rfl, by decide +kernel, by decide +kernel⟩
theorem ok_law_edit (F : Fun K "_law_edit" "_law_edit" s_law_edit f fd) (T : TC K mg) (C_law_take : Callee P w K mg base "_law_take" 1 ["box", "many"] (spTake K)) (C_law_pick : Callee P w K mg base "_law_pick" 2 ["box", "some"] (spPick K)) (C_law_drawn_rule : Callee P w K mg base "_law_drawn_rule" 3 ["box", "grammar"] (spDr K)) : FnOk P w K mg base CX0 4 f fd ["box", "grammar"] (spEdt K) := by
  refine F.ok sc_law_edit (fun vs H Q E h => ?_) (fun cdv A outer s H vs Q E hr h => ?_)
  · obtain ⟨p, vg, B, n, rs, rfl, _⟩ := h
    rfl
  · obtain ⟨p, vg, B, n, rs, rfl, k, hg, G, q⟩ := h
    have hu64 : (A.deeper (envOfC "_law_edit" (defScope s_law_edit) s.heap.objs.size f cdv)).units + 64 < cLine := hr.units
    refine ⟨_, (pss_cons (ps_set (i := 2) sc_law_edit.nd rfl (Or.inl rfl) (pe_callB (call_lenK K) (by rfl) T.m_len bt_len (pa_cons (pe_ix (ix_seqK K) (pv 1) pe_int (fun _ _ => rfl)) pa_nil)))
      (pss_cons (ps_set (i := 3) sc_law_edit.nd rfl (Or.inl rfl) (pe_callC C_law_pick (hr.mono (by decide)) rfl pass0 (pa_cons (pv 0) (pa_cons (pe_lst (pa_cons pe_str (pa_cons pe_str (pa_cons pe_str (pa_cons pe_str (pa_cons pe_str pa_nil)))))) pa_nil))))
      (pss_cons (ps_if (pt_cmpR (op_eqDK K hu64) (pv 3) pe_str (nomark _)) (pss_one (ps_ret (pe_tup (pa_cons (pv 3) (pa_cons (pe_tup (pa_cons (pe_callC C_law_take (hr.mono (by decide)) rfl pass0 (pa_cons (pv 0) (pa_cons (pe_op (op_addK K) (pv 2) pe_int) pa_nil))) (pa_cons (pe_callC C_law_drawn_rule (hr.mono (by decide)) rfl pass0 (pa_cons (pv 0) (pa_cons (pv 1) pa_nil))) pa_nil))) pa_nil))))) pss_nil)
      (pss_cons (ps_if (pt_cmpR (op_eqDK K hu64) (pv 3) pe_str (nomark _)) (pss_one (ps_ret (pe_tup (pa_cons (pv 3) (pa_cons (pe_tup (pa_cons (pe_callC C_law_take (hr.mono (by decide)) rfl pass0 (pa_cons (pv 0) (pa_cons (pe_op (op_addK K) (pv 2) pe_int) pa_nil))) pa_nil)) pa_nil))))) pss_nil)
      (pss_one (ps_ret (pe_tup (pa_cons (pv 3) (pa_cons (pe_tup (pa_cons (pe_callC C_law_take (hr.mono (by decide)) rfl pass0 (pa_cons (pv 0) (pa_cons (pe_op (op_addK K) (pv 2) pe_int) pa_nil))) (pa_cons (pe_callC C_law_drawn_rule (hr.mono (by decide)) rfl pass0 (pa_cons (pv 0) (pa_cons (pv 1) pa_nil))) pa_nil))) pa_nil))))))))), ?_⟩
    have l12 := G.l12
    have a : At (Fm.box p) B H B H := At.start k
    refine qv_asg (P := DD K (.int (rs.length : Nat))) a (ev_cb (eds_cons (ed_op (ed_var (i := 1) rfl hg) ed_int (rd_ixT at2_1)) eds_nil) (rc_len rfl)) fun vm B1 H1 e1 a1 hm => ?_
    obtain rfl := dd_int hm
    refine qv_asg (P := fun v _ => ∃ wd : Str, v = .str wd ∧ wd ∈ (["put", "put", "take", "turn", "turn"] : List Str)) a1 ((ev_pick (K := K) (i := 0) (d := .list ((["put", "put", "take", "turn", "turn"] : List Str).map .str)) rfl (ed_lst (eds_cons ed_str (eds_cons ed_str (eds_cons ed_str (eds_cons ed_str (eds_cons ed_str eds_nil)))))) (.inl rfl) (by decide) (by decide)).imp fun v B2 _ ⟨x, hx, hv⟩ => ?_) fun vwd B2 H2 e2 a2 ⟨wd, hwd, h8⟩ => ?_
    · obtain ⟨u, hu, rfl⟩ := List.mem_map.mp hx
      exact ⟨u, (dd_str hv).1, hu⟩
    subst hwd
    have hg := hg.up (e1.trans e2)
    have fcts : ∀ u ∈ (["put", "put", "take", "turn", "turn"] : List Str), u.length ≤ 10 ∧ SeqAt.shaped (.str u) = true ∧ ((u = "put") ∨ (u = "take") ∨ (u = "turn")) := by decide +kernel
    obtain ⟨wl0, wsh, hcase⟩ := fcts wd h8
    have wl : wd.length ≤ sizeLine := by rw [sizeLine_eq]; omega
    have eqs : ∀ u : Str, PyData.eqv (.str wd) (.str u) = (wd == u) := fun u => by simp [PyData.eqv]
    have tst : ∀ {F : Fm} {σ : L2.St} {B5 : Hp} (u : Str), SeqAt.shaped (.str u) = true → u.length ≤ 100 → σ[3]? = some (some (V.str wd)) → ETt F (tTest (tOp (rEqD K) (tVar 3) (tC (.str u)))) σ B5 (wd == u) := fun u hs hl h => et_is (et_cmp (ed_op (ed_var h (.str wd wl)) (ed_v (.str u (by rw [sizeLine_eq]; omega))) (rd_eqD wsh hs))) (eqs u)
    have tk : ∀ {σ : L2.St} {B5 : Hp} (c : Int), 1 ≤ c → c ≤ 2 → σ[0]? = some (some (V.ref p)) → σ[2]? = some (some (V.int (rs.length : Nat))) → EV (Fm.box p) (tCall (spTake K) [] E0 (tCons (tVar 0) (tCons (tOp (rAddA K) (tVar 2) (tC (.int c))) tNil))) σ B5 (fun v B => ∃ d, Dd K B v d ∧ ∃ i : Int, d = .int i ∧ 0 ≤ i ∧ i < (rs.length : Nat) + 2) := fun c c1 c2 h0 h2 => (evp_take (K := K) h0 (ed_op (ed_var h2 (.int _)) (ed_int (i := c)) rd_add) (by omega) (by omega)).imp fun v _ _ ⟨i, hi, i0, i1⟩ => ⟨_, hi, i, rfl, i0, by omega⟩
    have dr : ∀ {σ : L2.St} {B5 : Hp}, Ex B2 B5 → σ[0]? = some (some (V.ref p)) → σ[1]? = some (some vg) → EV (Fm.box p) (tCall (spDr K) [] E0 (tCons (tVar 0) (tCons (tVar 1) tNil))) σ B5 (fun v B => ∃ d, Dd K B v d ∧ RG n d) := fun e h0 h1 B6 e6 H6 j6 Q6 q6 => ⟨.ref p, h0, vg, h1, p, vg, B6, n, rs, rfl, j6, hg.up (e.trans e6), ⟨G.n1, G.n8⟩, fun v' B' H' r s k g hr => q6 v' B' H' s k ⟨r, g, hr⟩⟩
    have e3x : ∀ {σ : L2.St} {B5 : Hp}, σ[3]? = some (some (V.str wd)) → EV (Fm.box p) (tVar 3) σ B5 (fun v B => ∃ d, Dd K B v d ∧ d = .str wd) := fun h => ev_any (ed_var h (.str wd wl))
    have pr : ∀ {σ : L2.St} {B5 : Hp} (c : Int), 1 ≤ c → c ≤ 2 → Ex B2 B5 → σ[0]? = some (some (V.ref p)) → σ[1]? = some (some vg) → σ[2]? = some (some (V.int (rs.length : Nat))) → EV (Fm.box p) (tTup (tCons (tCall (spTake K) [] E0 (tCons (tVar 0) (tCons (tOp (rAddA K) (tVar 2) (tC (.int c))) tNil))) (tCons (tCall (spDr K) [] E0 (tCons (tVar 0) (tCons (tVar 1) tNil))) tNil))) σ B5 (fun v B => ∃ d, Dd K B v d ∧ ∃ i rl, d = .tuple [.int i, rl] ∧ (0 ≤ i ∧ i < (rs.length : Nat) + 2) ∧ RG n rl) := fun c c1 c2 e h0 h1 h2 => (ev_tup2 (tk c c1 c2 h0 h2) (dr e h0 h1)).imp fun v _ _ ⟨x, y, hv, ⟨i, hx, i0, i1⟩, hy⟩ => ⟨_, hv, i, y, by rw [hx], ⟨i0, i1⟩, hy⟩
    refine qv_when (b := wd == ("put" : Str)) a2 (tst "put" (by decide +kernel) (by decide +kernel) rfl) (fun hb B3 H3 e3 a3 => ?_) (fun hb B3 H3 e3 a3 => ?_)
    · have hw : wd = "put" := beq_iff_eq.mp hb
      refine sv_ret a3 (ev_tup2 (e3x rfl) (pr 2 (by decide) (by decide) e3 rfl rfl rfl)) fun v B4 H4 e4 a4 ⟨x, y, hv, hx, i, rl, hy, hi, hrl⟩ => ?_
      subst hx hy hw
      exact q v B4 H4 (.put (.int i) rl) ((a4.st)) a4.j hv ⟨i, rfl, hi.1, hi.2, hrl⟩
    refine qv_when (b := wd == ("take" : Str)) a3 (tst "take" (by decide +kernel) (by decide +kernel) rfl) (fun hb2 B4 H4 e4 a4 => ?_) (fun hb2 B4 H4 e4 a4 => ?_)
    · have hw : wd = "take" := beq_iff_eq.mp hb2
      refine sv_ret a4 (ev_tup2 (e3x rfl) ((ev_tup1 (tk 1 (by decide) (by decide) rfl rfl)).imp (Z := fun v B => ∃ d, Dd K B v d ∧ ∃ i : Int, d = .tuple [.int i] ∧ 0 ≤ i ∧ i < (rs.length : Nat) + 2) fun v _ _ ⟨x, hv, i, hx, hi⟩ => ⟨_, hv, i, by rw [hx], hi⟩)) fun v B5 H5 e5 a5 ⟨x, y, hv, hx, i, hy, hi⟩ => ?_
      subst hx hy hw
      exact q v B5 H5 (.take (.int i)) a5.st a5.j hv ⟨i, rfl, hi.1, hi.2⟩
    · have hw : wd = "turn" := by
        rcases hcase with h | h | h
        · rw [h] at hb; exact absurd hb (by decide +kernel)
        · rw [h] at hb2; exact absurd hb2 (by decide +kernel)
        · exact h
      refine sv_ret a4 (ev_tup2 (e3x rfl) (pr 1 (by decide) (by decide) (e3.trans e4) rfl rfl rfl)) fun v B5 H5 e5 a5 ⟨x, y, hv, hx, i, rl, hy, hi, hrl⟩ => ?_
      subst hx hy hw
      exact q v B5 H5 (.turn (.int i) rl) a5.st a5.j hv ⟨i, rfl, hi.1, hi.2, hrl⟩

end
end K50

namespace K50
open PySem PySem.Spec PyProof.Rows L2 Evl Ex Dx StX
open PySem.PyData (strOk)
section
variable {P : Program} {w : World} {K : PySem.W.Frag} {mg : Str → Option Value} {base : Heap} {f : Addr} {fd : FuncData}


/-! ### _law_edited -/
theorem SG.put {n : Nat} {rs : List PyData} {i k : Nat} {rl : PyData} (G : SG n rs) (hr : RG n rl) (hk : i + k ≤ rs.length) (hl : rs.length + 1 - k ≤ 12) (h1 : 1 ≤ rs.length + 1 - k) (hb : backK (edges (putR rs i k rl)) n = none) : SG n (putR rs i k rl) := ⟨G.n1, G.n8, by rw [putR_len hk]; exact h1, by rw [putR_len hk]; exact hl, fun r h => by
  rcases putR_mem h with rfl | h
  · exact hr
  · exact G.ok r h, hb⟩
theorem inB_i {i h : Int} (h0 : 0 ≤ i) : inB (.int i) 0 h = decide (i ≤ h) := by
  show (decide (0 ≤ i) && decide (i ≤ h)) = _
  rw [decide_eq_true h0, Bool.true_and]
theorem back_iso {o : Option Int} (h : ¬ o.isSome = true) : o = none := by
  cases o with
  | none => rfl
  | some b => exact absurd rfl h
theorem edO_sg {n m : Nat} {rs new : List PyData} {ed : Ed} (G : SG n rs) (hl : LEd n m ed) (h : edO n rs ed = .kept new) : SG n new := by
  have l1 := G.l1
  have l12 := G.l12
  cases ed with
  | put pl rl =>
    obtain ⟨i, rfl, i0, _, hr⟩ := hl
    have h : putO n rs (.int i) rl = .kept new := h
    unfold putO at h
    rw [inB_i i0] at h
    split at h
    · cases h
    · rename_i h1
      have h1 : i ≤ (rs.length : Nat) := by
        have : decide (i ≤ (rs.length : Nat)) = true := by simpa using h1
        exact of_decide_eq_true this
      split at h
      · cases h
      · rename_i h2
        rw [hr.1] at h2
        have h2 : ¬ 12 ≤ rs.length := fun z => h2 (by rw [decide_eq_true z]; rfl)
        unfold editO at h
        split at h
        · cases h
        · rename_i h3
          cases h
          have : (numI (.int i)).toNat ≤ rs.length := by show i.toNat ≤ _; omega
          exact G.put hr (by omega) (by omega) (by omega) (back_iso h3)
  | take pl =>
    obtain ⟨i, rfl, i0, _⟩ := hl
    have h : takeO rs (.int i) = .kept new := h
    unfold takeO at h
    rw [inB_i i0] at h
    split at h
    · cases h
    · rename_i h1
      have h1 : i ≤ (rs.length : Nat) - 1 := by
        have : decide (i ≤ (rs.length : Nat) - 1) = true := by simpa using h1
        exact of_decide_eq_true this
      split at h
      · cases h
      · rename_i h2
        cases h
        have hm : ∀ r ∈ rs.take (numI (.int i)).toNat ++ rs.drop ((numI (.int i)).toNat + 1), r ∈ rs := fun r hr => by
          rcases List.mem_append.mp hr with hr | hr
          · exact List.mem_of_mem_take hr
          · exact List.mem_of_mem_drop hr
        have hlen : (rs.take (numI (.int i)).toNat ++ rs.drop ((numI (.int i)).toNat + 1)).length = rs.length - 1 := by
          show (rs.take i.toNat ++ rs.drop (i.toNat + 1)).length = _
          rw [List.length_append, List.length_take, List.length_drop]
          omega
        exact ⟨G.n1, G.n8, by omega, by omega, fun r hr => G.ok r (hm r hr), back_less G hm⟩
  | turn pl rl =>
    obtain ⟨i, rfl, i0, _, hr⟩ := hl
    have h : turnO n rs (.int i) rl = .kept new := h
    unfold turnO at h
    rw [inB_i i0] at h
    split at h
    · cases h
    · rename_i h1
      have h1 : i ≤ (rs.length : Nat) - 1 := by
        have : decide (i ≤ (rs.length : Nat) - 1) = true := by simpa using h1
        exact of_decide_eq_true this
      split at h
      · cases h
      · unfold editO at h
        split at h
        · cases h
        · rename_i h3
          cases h
          have : (numI (.int i)).toNat + 1 ≤ rs.length := by show i.toNat + 1 ≤ _; omega
          exact G.put hr (by omega) (by omega) (by omega) (back_iso h3)
def spEdd (K : PySem.W.Frag) : Sp := fun vs H Q _ => ∃ (B : Hp) (vg ve : V) (n m : Nat) (rs : List PyData) (ed : Ed), vs = [vg, ve] ∧ Ex B H ∧ Dd K B vg (.tuple [.int (n : Nat), .tuple rs]) ∧ Dd K B ve (edD ed) ∧ SG n rs ∧ LEd n m ed ∧ m ≤ 100 ∧ ∀ v' B' H', Step (fun _ => False) B H B' H' → Dd K B' v' (ocD n (edO n rs ed)) → Q v' H'

abbrev s_law_edited : Stmt := topS 117
abbrev N_law_edited : List Str := ["grammar", "edit", "kinds", "rules", "kind", "given", "place", "new"]
theorem sc_law_edited : FnScope N_law_edited ["grammar", "edit"] (defScope s_law_edited) := ⟨rfl, rfl, rfl, by decide +kernel, rfl, by decide +kernel, by decide +kernel⟩
theorem ok_law_edited (F : Fun K "_law_edited" "_law_edited" s_law_edited f fd) (T : TC K mg) (C_law_unary : Callee P w K mg base "_law_unary" 1 ["rules"] (spF K preUn fUn)) (C_law_back_kind : Callee P w K mg base "_law_back_kind" 1 ["steps", "kinds"] (spF K preBack fBack)) : FnOk P w K mg base CX0 2 f fd ["grammar", "edit"] (spEdd K) := by
  refine F.ok sc_law_edited (fun vs H Q E h => ?_) (fun cdv A outer s H vs Q E hr h => ?_)
  · obtain ⟨B, vg, ve, n, m, rs, ed, rfl, _⟩ := h
    rfl
  · obtain ⟨B, vg, ve, n, m, rs, ed, rfl, e, hg, hv, G, hL, hm, q⟩ := h
    have hu64 : (A.deeper (envOfC "_law_edited" (defScope s_law_edited) s.heap.objs.size f cdv)).units + 64 < cLine := hr.units
    refine ⟨_, (pss_cons (ps_asg (pv 0) (pg_tupK K (n := 2) rfl (pgs_cons (pg_name (i := 2) sc_law_edited.nd rfl (Or.inl rfl)) (pgs_cons (pg_name (i := 3) sc_law_edited.nd rfl (Or.inl rfl)) pgs_nil))))
      (pss_cons (ps_asg (pv 1) (pg_tupK K (n := 2) rfl (pgs_cons (pg_name (i := 4) sc_law_edited.nd rfl (Or.inl rfl)) (pgs_cons (pg_name (i := 5) sc_law_edited.nd rfl (Or.inl rfl)) pgs_nil))))
      (pss_cons (ps_set (i := 6) sc_law_edited.nd rfl (Or.inl rfl) (pe_ix (ix_seqK K) (pv 5) pe_int (fun _ _ => rfl)))
      (pss_cons (ps_if (pt_cmpR op_ge (pv 6) (pe_op (op_addK K) (pe_callB (call_lenK K) (by rfl) T.m_len bt_len (pa_cons (pv 3) pa_nil)) (pe_callTy call_int1 (by rfl) T.m_int bt_int (pa_cons (pe_cmpR (op_eqDK K hu64) (pv 4) pe_str (nomark _)) pa_nil))) (nomark _)) (pss_one (ps_ret (pe_tup (pa_cons pe_str (pa_cons (pv 6) pa_nil))))) pss_nil)
      (pss_cons (ps_if (pt_cmpR (op_eqDK K hu64) (pv 4) pe_str (nomark _)) (pss_one (ps_ret (pe_ifExp (pt_cmpR (op_eqDK K hu64) (pe_callB (call_lenK K) (by rfl) T.m_len bt_len (pa_cons (pv 3) pa_nil)) pe_int (nomark _)) (pe_tup (pa_cons pe_str (pa_cons pe_str pa_nil))) (pe_tup (pa_cons pe_str (pa_cons (pe_tup (pa_cons (pv 2) (pa_cons (pe_op (op_addK K) (pe_slice (sl_anyK K) (pv 3) po_none (po_some (pv 6))) (pe_slice (sl_anyK K) (pv 3) (po_some (pe_op (op_addK K) (pv 6) pe_int)) po_none)) pa_nil))) pa_nil)))))) pss_nil)
      (pss_cons (ps_set (i := 7) sc_law_edited.nd rfl (Or.inl rfl) (pe_op (op_addK K) (pe_op (op_addK K) (pe_slice (sl_anyK K) (pv 3) po_none (po_some (pv 6))) (pe_tup (pa_cons (pe_ix (ix_seqK K) (pv 5) pe_int (fun _ _ => rfl)) pa_nil))) (pe_slice (sl_anyK K) (pv 3) (po_some (pe_op (op_addK K) (pv 6) (pe_callTy call_int1 (by rfl) T.m_int bt_int (pa_cons (pe_cmpR (op_eqDK K hu64) (pv 4) pe_str (nomark _)) pa_nil)))) po_none)))
      (pss_cons (ps_if (PW.pt (pw_or (PW.pt (pw_and (pt_cmpR (op_eqDK K hu64) (pv 4) pe_str (nomark _)) (pw_and1 (pt_cmpR op_gt (pe_callB (call_lenK K) (by rfl) T.m_len bt_len (pa_cons (pv 3) pa_nil)) pe_int (nomark _))))) (pw_or1 (pt_cmpR op_notN (pe_callC C_law_back_kind (hr.mono (by decide)) rfl pass0 (pa_cons (pe_callC C_law_unary (hr.mono (by decide)) rfl pass0 (pa_cons (pv 7) pa_nil)) (pa_cons (pv 2) pa_nil))) pe_non (nomark _))))) (pss_one (ps_ret (pe_tup (pa_cons pe_str (pa_cons (pe_ix (ix_seqK K) (pv 5) pe_int (fun _ _ => rfl)) pa_nil))))) pss_nil)
      (pss_one (ps_ret (pe_tup (pa_cons pe_str (pa_cons (pe_tup (pa_cons (pv 2) (pa_cons (pv 7) pa_nil))) pa_nil)))))))))))), ?_⟩
    have l1 := G.l1
    have l12 := G.l12
    have n8 := G.n8
    have hsp : ∃ (k : Str) (i : Int) (gs : List PyData), edD ed = .tuple [.str k, .tuple gs] ∧ atI gs 0 = some (.int i) ∧ (0 ≤ i ∧ i < 102) ∧ ((k = "put" ∧ ∃ rl, gs = [.int i, rl] ∧ ed = .put (.int i) rl ∧ RG n rl) ∨ (k = "take" ∧ gs = [.int i] ∧ ed = .take (.int i)) ∨ (k = "turn" ∧ ∃ rl, gs = [.int i, rl] ∧ ed = .turn (.int i) rl ∧ RG n rl)) := by
      cases ed with
      | put pl rl =>
        obtain ⟨i, rfl, i0, i1, hr⟩ := hL
        exact ⟨"put", i, _, rfl, atI_nat (j := 0) rfl, ⟨i0, by omega⟩, .inl ⟨rfl, rl, rfl, rfl, hr⟩⟩
      | take pl =>
        obtain ⟨i, rfl, i0, i1⟩ := hL
        exact ⟨"take", i, _, rfl, atI_nat (j := 0) rfl, ⟨i0, by omega⟩, .inr (.inl ⟨rfl, rfl, rfl⟩)⟩
      | turn pl rl =>
        obtain ⟨i, rfl, i0, i1, hr⟩ := hL
        exact ⟨"turn", i, _, rfl, atI_nat (j := 0) rfl, ⟨i0, by omega⟩, .inr (.inr ⟨rfl, rl, rfl, rfl, hr⟩)⟩
    obtain ⟨k, i, gs, hed, h0, ⟨i0, i1⟩, hk⟩ := hsp
    have hkf : (k = "put" ∨ k = "take" ∨ k = "turn") := by
      rcases hk with ⟨h, _⟩ | ⟨h, _⟩ | ⟨h, _⟩
      · exact .inl h
      · exact .inr (.inl h)
      · exact .inr (.inr h)
    have ks : SeqAt.shaped (.str k) = true := by rcases hkf with rfl | rfl | rfl <;> decide +kernel
    have eqs : ∀ u : Str, PyData.eqv (.str k) (.str u) = (k == u) := fun u => by simp [PyData.eqv]
    have a : At Fm.pure B H B H := At.start (Ok.any e)
    refine qv_unpP a (ed_var (i := 0) rfl hg) fun v2 v3 B1 H1 e1 a1 g2 g3 => ?_
    obtain rfl := dd_int g2
    refine qv_unpP a1 (ed_is (ed_var (i := 1) rfl (hv.up e1)) hed) fun v4 v5 B2 H2 e2 a2 g4 g5 => ?_
    refine qv_asg (P := DD K (.int i)) a2 (ed_op (ed_var (i := 5) rfl g5) ed_int (rd_ixT h0)) fun v6 B3 H3 e3 a3 g6 => ?_
    obtain rfl := dd_int g6
    have g3 := g3.up (e2.trans e3)
    have g4 := g4.up e3
    have g5 := g5.up e3
    have lenR : ∀ {F : Fm} {σ : L2.St} {B5 : Hp}, Ex B3 B5 → σ[3]? = some (some v3) → ED F K (tCB (rLnK K) (tCons (tVar 3) tNil)) σ B5 (.int (rs.length : Nat)) := fun e h => ev_cb (eds_cons (ed_var h (g3.up e)) eds_nil) (rc_len rfl)
    have isK : ∀ {F : Fm} {σ : L2.St} {B5 : Hp} (u : Str), SeqAt.shaped (.str u) = true → u.length ≤ 100 → Ex B3 B5 → σ[4]? = some (some v4) → ED F K (tOp (rEqD K) (tVar 4) (tC (.str u))) σ B5 (.bool (k == u)) := fun u hs hl e h => ed_is (ed_op (ed_var h (g4.up e)) (ed_v (.str u (by rw [sizeLine_eq]; omega))) (rd_eqD ks hs)) (congrArg PyData.bool (eqs u))
    have intK : ∀ {F : Fm} {σ : L2.St} {B5 : Hp} (u : Str), SeqAt.shaped (.str u) = true → u.length ≤ 100 → Ex B3 B5 → σ[4]? = some (some v4) → ED F K (tCB (fun xs H Q => (∃ i, xs = [.int i] ∧ Q (.int i) H) ∨ ∃ k, xs = [.bl k] ∧ Q (.int (if k then 1 else 0)) H) (tCons (tOp (rEqD K) (tVar 4) (tC (.str u))) tNil)) σ B5 (.int (if k == u then 1 else 0)) := fun u hs hl e h => ev_cb (eds_cons (isK u hs hl e h) eds_nil) rc_intB
    refine qv_when (b := decide ((rs.length : Nat) + (if k == ("put" : Str) then (1 : Int) else 0) ≤ i)) a3 (et_cmp (ed_op (ed_var (i := 6) rfl (.int i)) (ed_op (lenR (Ex.refl B3) rfl) (intK "put" (by decide +kernel) (by decide +kernel) (Ex.refl B3) rfl) rd_add) rd_ge)) (fun hb B4 H4 e4 a4 => ?_) (fun hb B4 H4 e4 a4 => ?_)
    · have hb := of_decide_eq_true hb
      refine sv_ret (P := DD K (.tuple [.str "number", .int i])) a4 (ed_tup (eds_cons ed_str (eds_cons (ed_var (i := 6) rfl (.int i)) eds_nil))) fun v B5 H5 e5 a5 hv5 => q v B5 H5 a5.st ?_
      have : edO n rs ed = .num (.int i) := by
        rcases hk with ⟨rfl, rl, _, rfl, _⟩ | ⟨rfl, _, rfl⟩ | ⟨rfl, rl, _, rfl, _⟩
        · rw [if_pos (by decide +kernel)] at hb
          show putO n rs (.int i) rl = _
          unfold putO
          rw [if_pos (by rw [inB_i i0]; exact decide_eq_false (by omega))]
        · rw [if_neg (by decide +kernel)] at hb
          show takeO rs (.int i) = _
          unfold takeO
          rw [if_pos (by rw [inB_i i0]; exact decide_eq_false (by omega))]
        · rw [if_neg (by decide +kernel)] at hb
          show turnO n rs (.int i) rl = _
          unfold turnO
          rw [if_pos (by rw [inB_i i0]; exact decide_eq_false (by omega))]
      rw [this]
      exact hv5
    have hb := of_decide_eq_false hb
    refine qv_when (b := k == ("take" : Str)) a4 (et_cmp (isK "take" (by decide +kernel) (by decide +kernel) e4 rfl)) (fun hb2 B5 H5 e5 a5 => ?_) (fun hb2 B5 H5 e5 a5 => ?_)
    · have hw : k = "take" := beq_iff_eq.mp hb2
      rcases hk with ⟨h, _⟩ | ⟨_, _, rfl⟩ | ⟨h, _⟩
      · rw [h] at hw; exact absurd hw (by decide +kernel)
      · subst hw
        rw [if_neg (by decide +kernel)] at hb
        have hi : i ≤ (rs.length : Nat) := by omega
        have hin : inB (.int i) 0 ((rs.length : Nat) - 1) = true := by rw [inB_i i0]; exact decide_eq_true (by omega)
        have g3 := g3.up (e4.trans e5)
        refine sv_ret (P := DD K (ocD n (takeO rs (.int i)))) a5 (ev_if (b := ((rs.length : Nat) : Int) == 1) (et_is (et_cmp (ed_op (lenR (e4.trans e5) rfl) ed_int (rd_eqD rfl rfl))) (eqv_int _ _)) (fun hc => ed_is (ed_tup (eds_cons ed_str (eds_cons ed_str eds_nil))) ?_) (fun hc => ed_is (ed_tup (eds_cons ed_str (eds_cons (ed_tup (eds_cons (ed_var (i := 2) rfl (.int (n : Nat))) (eds_cons (ed_op (ed_slT (ed_var (i := 3) rfl g3) eo_none (eo_some (K := K) (ed_var (i := 6) rfl (.int i)))) (ed_slT (ed_var (i := 3) rfl g3) (eo_some (K := K) (ed_op (ed_var (i := 6) rfl (.int i)) ed_int rd_add)) eo_none) (rd_addT (by
            have h1 := cutL_len rs none (some i)
            have h2 := cutL_len rs (some (i + 1)) none
            omega))) eds_nil))) eds_nil))) ?_)) fun v B6 H6 e6 a6 hv6 => q v B6 H6 a6.st hv6
        · have hc' : rs.length = 1 := by have := beq_iff_eq.mp hc; omega
          unfold takeO
          rw [hin, if_neg (by decide), if_pos hc']
          rfl
        · have hc' : rs.length ≠ 1 := fun z => by rw [z] at hc; cases hc
          unfold takeO
          rw [hin, if_neg (by decide), if_neg hc', cut_to i0 hi, cut_from (i := i + 1) (by omega) (by omega), show (i + 1).toNat = i.toNat + 1 by omega]
          rfl
      · rw [h] at hw; exact absurd hw (by decide +kernel)
    have hrl : ∃ rl, gs = [.int i, rl] ∧ RG n rl ∧ ((k = "put" ∧ ed = .put (.int i) rl) ∨ (k = "turn" ∧ ed = .turn (.int i) rl)) := by
      rcases hk with ⟨h, rl, h1, h2, h3⟩ | ⟨h, _⟩ | ⟨h, rl, h1, h2, h3⟩
      · exact ⟨rl, h1, h3, .inl ⟨h, h2⟩⟩
      · rw [h] at hb2; exact absurd hb2 (by decide +kernel)
      · exact ⟨rl, h1, h3, .inr ⟨h, h2⟩⟩
    obtain ⟨rl, rfl, hr, hk2⟩ := hrl
    have kkv : ∃ kk : Nat, (if k == ("turn" : Str) then (1 : Int) else 0) = (kk : Nat) ∧ ((k = "put" ∧ ed = .put (.int i) rl ∧ kk = 0 ∧ i ≤ (rs.length : Nat) ∧ (k == ("put" : Str)) = true) ∨ (k = "turn" ∧ ed = .turn (.int i) rl ∧ kk = 1 ∧ i + 1 ≤ (rs.length : Nat) ∧ (k == ("put" : Str)) = false)) := by
      rcases hk2 with ⟨rfl, h⟩ | ⟨rfl, h⟩
      · rw [if_pos (by decide +kernel)] at hb
        exact ⟨0, if_neg (by decide +kernel), .inl ⟨rfl, h, rfl, by omega, by decide +kernel⟩⟩
      · rw [if_neg (by decide +kernel)] at hb
        exact ⟨1, if_pos (by decide +kernel), .inr ⟨rfl, h, rfl, by omega, by decide +kernel⟩⟩
    obtain ⟨kk, hkk, hk3⟩ := kkv
    have hik : i.toNat + kk ≤ rs.length ∧ i + (kk : Nat) ≤ (rs.length : Nat) := by rcases hk3 with ⟨_, _, h1, h2, _⟩ | ⟨_, _, h1, h2, _⟩ <;> omega
    have e45 := e4.trans e5
    have g3' := g3.up e45
    have g5' := g5.up e45
    have hlen := putR_len (rl := rl) hik.1
    refine qv_asg (P := DD K (.tuple (putR rs i.toNat kk rl))) a5 (ed_is (ed_op (ed_op (ed_slT (ed_var (i := 3) rfl g3') eo_none (eo_some (K := K) (ed_var (i := 6) rfl (.int i)))) (ed_tup (eds_cons (ed_op (ed_var (i := 5) rfl g5') ed_int (rd_ixT at2_1)) eds_nil)) (rd_addT (by
        have h1 := cutL_len rs none (some i)
        show _ + 1 ≤ 16777216
        omega))) (ed_slT (ed_var (i := 3) rfl g3') (eo_some (K := K) (ed_op (ed_var (i := 6) rfl (.int i)) (ed_is (intK "turn" (by decide +kernel) (by decide +kernel) e45 rfl) (congrArg PyData.int hkk)) rd_add)) eo_none) (rd_addT (by
        have h1 := cutL_len rs none (some i)
        have h2 := cutL_len rs (some (i + (kk : Nat))) none
        rw [List.length_append]
        show _ + 1 + _ ≤ 16777216
        omega))) (by
        rw [cut_to i0 (by omega), cut_from (i := i + (kk : Nat)) (by omega) hik.2, show (i + (kk : Nat)).toNat = i.toNat + kk by omega, List.append_assoc]
        rfl)) fun v7 B6 H6 e6 a6 g7 => ?_
    have e46 := e45.trans e6
    have hall : ∀ r ∈ putR rs i.toNat kk rl, ruleD r n = true := fun r h => by
      rcases putR_mem h with rfl | h
      · exact hr.1
      · exact (G.ok r h).1
    refine qv_when (b := (k == ("put" : Str) && decide (11 < rs.length)) || !isNon (optD (backK (edges (putR rs i.toNat kk rl)) n))) a6 (et_or (et_is (et_and (et_cmp (isK "put" (by decide +kernel) (by decide +kernel) e46 rfl)) fun _ => et_cmp (ed_op (lenR e46 rfl) (ed_int (K := K) (i := 11)) rd_gt)) (by congr 1; exact decide_eq_decide.mpr (by omega))) fun _ => et_cmp (ed_op (ed_F (z := optD (backK (edges (putR rs i.toNat kk rl)) n)) (eds_cons (ed_F (z := .list ((edges (putR rs i.toNat kk rl)).map toD)) (eds_cons (ed_var (i := 7) rfl g7) eds_nil) ⟨_, putR rs i.toNat kk rl, n, rfl, .inr rfl, by omega, hall⟩ rfl) (eds_cons (ed_var (i := 2) rfl (.int (n : Nat))) eds_nil)) ⟨edges (putR rs i.toNat kk rl), n, rfl, by have := edges_len (putR rs i.toNat kk rl); omega, by omega⟩ (by
        show optD (backK (((edges (putR rs i.toNat kk rl)).map toD).map ofD) ((n : Nat) : Int).toNat) = _
        rw [ofD_toD]
        rfl)) ed_non rd_notN)) (fun hc B7 H7 e7 a7 => ?_) (fun hc B7 H7 e7 a7 => ?_)
    · refine sv_ret (P := DD K (.tuple [.str "rule", rl])) a7 (ed_tup (eds_cons ed_str (eds_cons (ed_op (ed_var (i := 5) rfl (g5.up (e46.trans e7))) ed_int (rd_ixT at2_1)) eds_nil))) fun v B8 H8 e8 a8 hv8 => q v B8 H8 a8.st ?_
      have : edO n rs ed = .rule rl := by
        have iso : ∀ {o : Option Int}, (!isNon (optD o)) = true → o.isSome = true := fun {o} h => by
          cases o with
          | none => cases h
          | some b => rfl
        rcases hk3 with ⟨_, rfl, rfl, h2, h3⟩ | ⟨_, rfl, rfl, h2, h3⟩
        · show putO n rs (.int i) rl = _
          unfold putO
          rw [inB_i i0, decide_eq_true h2, if_neg (by decide), hr.1]
          by_cases hl : 12 ≤ rs.length
          · rw [if_pos (by rw [decide_eq_true hl]; rfl)]
          · rw [if_neg (by rw [decide_eq_false hl]; decide)]
            rw [h3, decide_eq_false (by omega)] at hc
            unfold editO
            rw [show (numI (.int i)).toNat = i.toNat from rfl, if_pos (iso hc)]
        · show turnO n rs (.int i) rl = _
          unfold turnO
          rw [inB_i i0, decide_eq_true (by omega), if_neg (by decide), hr.1, if_neg (by decide)]
          rw [h3] at hc
          unfold editO
          rw [show (numI (.int i)).toNat = i.toNat from rfl, if_pos (iso hc)]
      rw [this]
      exact hv8
    · refine sv_ret (P := DD K (.tuple [.str "kept", .tuple [.int (n : Nat), .tuple (putR rs i.toNat kk rl)]])) a7 (ed_tup (eds_cons ed_str (eds_cons (ed_tup (eds_cons (ed_var (i := 2) rfl (.int (n : Nat))) (eds_cons (ed_var (i := 7) rfl (g7.up e7)) eds_nil))) eds_nil))) fun v B8 H8 e8 a8 hv8 => q v B8 H8 a8.st ?_
      have : edO n rs ed = .kept (putR rs i.toNat kk rl) := by
        have iso : ∀ {o : Option Int}, (!isNon (optD o)) = false → o = none := fun {o} h => by
          cases o with
          | none => rfl
          | some b => cases h
        have hc2 := Bool.or_eq_false_iff.mp hc
        rcases hk3 with ⟨_, rfl, rfl, h2, h3⟩ | ⟨_, rfl, rfl, h2, h3⟩
        · show putO n rs (.int i) rl = _
          have hl : ¬ 12 ≤ rs.length := by
            have := hc2.1
            rw [h3, Bool.true_and] at this
            have := of_decide_eq_false this
            omega
          unfold putO
          rw [inB_i i0, decide_eq_true h2, if_neg (by decide), hr.1, if_neg (by rw [decide_eq_false hl]; decide)]
          unfold editO
          rw [show (numI (.int i)).toNat = i.toNat from rfl, iso hc2.2, if_neg (by decide)]
        · show turnO n rs (.int i) rl = _
          unfold turnO
          rw [inB_i i0, decide_eq_true (by omega), if_neg (by decide), hr.1, if_neg (by decide)]
          unfold editO
          rw [show (numI (.int i)).toNat = i.toNat from rfl, iso hc2.2, if_neg (by decide)]
      rw [this]
      exact hv8

end
end K50

namespace K50
open PySem PySem.Spec PyProof.Rows L2 Evl Ex Dx StX
open PySem.PyData (strOk)
section
variable {P : Program} {w : World} {K : PySem.W.Frag} {mg : Str → Option Value} {base : Heap} {f : Addr} {fd : FuncData}


/-! ### what changes nothing of one's own -/
theorem EV.wl {F : Fm} {L : List (Addr × HO)} {hn : ∀ p ∈ L, nT p.2} {te : TE} {σ : L2.St} {B : Hp} {Z : PV} (h : EV F te σ B Z) (nm : ∀ p ∈ L, ¬ F.M p.1) : EV (F.wL L hn) te σ B Z := fun B1 e0 H1 j1 Q q =>
  h B1 e0 H1 ⟨j1.e, j1.j.1, fun a m => j1.av a (.inl m)⟩ Q fun v B' H' s k g => q v B' H' ⟨s.bb, s.bh, fun a o n h => s.keep a o (fun m => n (.inl m)) h, s.sep, s.live, s.liv⟩ ⟨k.e, ⟨k.j, fun p hp => s.keep p.1 p.2 (nm p hp) (j1.j.2 p hp)⟩, fun a m => by
    rcases m with m | ⟨p, hp, rfl⟩
    · exact k.av a m
    · exact s.sep p.1 (j1.av _ (.inr ⟨p, hp, rfl⟩)) ⟨_, j1.j.2 p hp, hn p hp⟩⟩ g
theorem Ow.wl {F : Fm} {B0 H0 B B1 H : Hp} {L : List (Addr × HO)} {te : TE} {σ : L2.St} {Z : PV} (w : Ow F B0 H0 B H L) (h : EV F te σ B1 Z) : EV (F.wL L w.nt) te σ B1 Z := EV.wl h fun p hp => (w.ow p hp).2.1
/-! ### a deed within an expression -/
section
variable {CP CD : Addr} {F : Fm} {B0 H0 B H : Hp} {L3 L : List (Addr × HO)} {n i : Nat} {rs : List PyData} {bs es : List (List PyData)} {d : Addr} {ed : Ed} {σ : L2.St} {te tr : TE}
theorem te_deed {Q : VK} (w : Ow F B0 H0 B H (L3 ++ L)) (hd : DkD K CP CD n rs bs es d L3 B) (G : SG n rs) (l9 : bs.length ≤ 900) (le : es.length ≤ 1000) (hi : σ[i]? = some (some (.ref d))) (ht : ED (F.wL (L3 ++ L) w.nt) K te σ B (edD ed))
    (q : ∀ v B' H' L3', Ow F B0 H0 B' H' (L3' ++ L) → Ex B B' → DkD K CP CD n (nxR rs (edO n rs ed)) (nxB rs bs (edO n rs ed)) (nxE es (edO n rs ed)) d L3' B' → Dd K B' v (ocD n (edO n rs ed)) → Q v H') :
    tCall (spDeed K CP CD) [] E0 (tCons (tVar i) (tCons te tNil)) σ H Q :=
  ⟨.ref d, hi, ht B (Ex.refl B) H w.ok _ fun v B1 H1 s1 k1 g => ⟨⟨F, B0, H0, B1, L3, L, n, rs, bs, es, d⟩, v, ed, rfl, ⟨w.back s1 k1, hd.up s1.bb, by show bs.length ≤ 1000; omega, le⟩, l9, G, g, fun v B' H' L3' w' e' d' h' => q v B' H' L3' w' (s1.bb.trans e') d' h'⟩⟩
theorem tt_deed {QT : Bool → Hp → Prop} (w : Ow F B0 H0 B H (L3 ++ L)) (hd : DkD K CP CD n rs bs es d L3 B) (G : SG n rs) (l9 : bs.length ≤ 900) (le : es.length ≤ 1000) (hi : σ[i]? = some (some (.ref d))) (ht : ED (F.wL (L3 ++ L) w.nt) K te σ B (edD ed))
    (hr : ∀ B' H' L3' (w' : Ow F B0 H0 B' H' (L3' ++ L)), Ex B B' → ED (F.wL (L3' ++ L) w'.nt) K tr σ B' (ocD n (edO n rs ed))) (hs : Sm 60 (ocD n (edO n rs ed)))
    (q : ∀ B' H' L3', Ow F B0 H0 B' H' (L3' ++ L) → Ex B B' → DkD K CP CD n (nxR rs (edO n rs ed)) (nxB rs bs (edO n rs ed)) (nxE es (edO n rs ed)) d L3' B' → QT false H') :
    tTest (tOp (rNeD K) (tCall (spDeed K CP CD) [] E0 (tCons (tVar i) (tCons te tNil))) tr) σ H QT :=
  te_deed w hd G l9 le hi ht fun v B1 H1 L1 w1 e1 d1 h1 => hr B1 H1 L1 w1 e1 B1 (Ex.refl _) H1 w1.ok _ fun u B2 H2 s2 k2 h2 => ⟨_, _, Dd.dp _ _ ((h1.up s2.bb).up k2.e), Dd.dp _ _ (h2.up k2.e), hs.sh, hs.sh, _, rfl, by
    rw [eqv_refl _ hs.1]
    exact q B2 H2 L1 (w1.back s2 k2) (e1.trans s2.bb) (d1.up s2.bb)⟩
/-- an edit that is refused: nothing changes -/
theorem tt_ref {QT : Bool → Hp → Prop} {o : Oc} (ho : edO n rs ed = o) (hk : nxR rs o = rs ∧ nxB rs bs o = bs ∧ nxE es o = es) (w : Ow F B0 H0 B H (L3 ++ L)) (hd : DkD K CP CD n rs bs es d L3 B) (G : SG n rs) (l9 : bs.length ≤ 900) (le : es.length ≤ 1000) (hi : σ[i]? = some (some (.ref d))) (ht : ED (F.wL (L3 ++ L) w.nt) K te σ B (edD ed))
    (hr : ∀ (F' : Fm) B', Ex B B' → ED F' K tr σ B' (ocD n o)) (hs : Sm 60 (ocD n o))
    (q : ∀ B' H' L3', Ow F B0 H0 B' H' (L3' ++ L) → Ex B B' → DkD K CP CD n rs bs es d L3' B' → QT false H') :
    tTest (tOp (rNeD K) (tCall (spDeed K CP CD) [] E0 (tCons (tVar i) (tCons te tNil))) tr) σ H QT := by
  subst ho
  refine tt_deed w hd G l9 le hi ht (fun B' H' L3' w' e' => hr _ B' e') hs fun B' H' L3' w' e' d' => q B' H' L3' w' e' ?_
  rw [hk.1, hk.2.1, hk.2.2] at d'
  exact d'
end
/-! ### what is refused -/
def odd1 (m : Nat) : List PyData := [.int (-1), .int (m : Nat), .none, .bool true, .str "0", .tuple [.int 0], .list [.int 0]]
def odd2 (m : Nat) : List PyData := [.int (-1), .int ((m : Nat) + 1), .none, .bool true, .str "0", .list [.int 0]]
def odd3 (n : Nat) : List PyData := [.tuple [], .none, .tuple [.int 0, .str "left"], .tuple [.int 0, .str "left", .str "A"], .list [.int 0, .str "left", .str "a"], .tuple [.int (n : Nat), .str "left", .str "a"], .tuple [.bool true, .str "left", .str "a"], .tuple [.int 0, .str "wrap", .int 0], .tuple [.int 0, .str "wrap", .int 0, .int (n : Nat)], .tuple [.int 0, .str "same", .int 0], .tuple [.int 0, .str "join", .int 0, .int 0]]
theorem sce {n : Nat} : ∀ x ∈ ([] : List PyData), Sm n x := fun x hx => nomatch hx
theorem scs {n : Nat} {a : PyData} {l : List PyData} (h : Sm n a) (t : ∀ x ∈ l, Sm n x) : ∀ x ∈ a :: l, Sm n x := fun x hx => by
  rcases List.mem_cons.mp hx with rfl | hx
  · exact h
  · exact t x hx
theorem odd1_is {m : Nat} {d : PyData} (h : d ∈ odd1 m) : inB d 0 ((m : Nat) - 1) = false ∧ Sm 50 d := by
  have z : ∀ x ∈ [PyData.int 0], Sm 40 x := fun x hx => by
    rw [List.mem_singleton.mp hx]
    exact sm_int
  simp only [odd1, List.mem_cons, List.not_mem_nil, or_false] at h
  rcases h with rfl | rfl | rfl | rfl | rfl | rfl | rfl
  · exact ⟨rfl, sm_int⟩
  · refine ⟨?_, sm_int⟩
    show (decide ((0 : Int) ≤ (m : Nat)) && decide (((m : Nat) : Int) ≤ (m : Nat) - 1)) = false
    rw [decide_eq_false (show ¬ ((m : Nat) : Int) ≤ (m : Nat) - 1 by omega), Bool.and_false]
  · exact ⟨rfl, sm_none⟩
  · exact ⟨rfl, sm_bool⟩
  · exact ⟨rfl, sm_str (by decide +kernel)⟩
  · exact ⟨rfl, (sm_tup z).le (by decide)⟩
  · exact ⟨rfl, (sm_lst z).le (by decide)⟩
theorem odd2_is {m : Nat} {d : PyData} (h : d ∈ odd2 m) : inB d 0 (m : Nat) = false ∧ Sm 50 d := by
  have z : ∀ x ∈ [PyData.int 0], Sm 40 x := fun x hx => by
    rw [List.mem_singleton.mp hx]
    exact sm_int
  simp only [odd2, List.mem_cons, List.not_mem_nil, or_false] at h
  rcases h with rfl | rfl | rfl | rfl | rfl | rfl
  · exact ⟨rfl, sm_int⟩
  · refine ⟨?_, sm_int⟩
    show (decide ((0 : Int) ≤ (m : Nat) + 1) && decide (((m : Nat) : Int) + 1 ≤ (m : Nat))) = false
    rw [decide_eq_false (show ¬ ((m : Nat) : Int) + 1 ≤ (m : Nat) by omega), Bool.and_false]
  · exact ⟨rfl, sm_none⟩
  · exact ⟨rfl, sm_bool⟩
  · exact ⟨rfl, sm_str (by decide +kernel)⟩
  · exact ⟨rfl, (sm_lst z).le (by decide)⟩
theorem odd3_is {n : Nat} {d : PyData} (h1 : 1 ≤ n) (h : d ∈ odd3 n) : (ruleD d n = false ∨ d = .tuple [.int 0, .str "same", .int 0]) ∧ Sm 50 d := by
  have ss : ∀ s : Str, strOk s = true → Sm 40 (.str s) := fun s h => sm_str h
  have zi : ∀ k : Int, Sm 40 (.int k) := fun k => sm_int
  have zb : Sm 40 (.bool true) := sm_bool
  have a1 := ss "left" (by decide +kernel)
  have a2 := ss "A" (by decide +kernel)
  have a3 := ss "a" (by decide +kernel)
  have a4 := ss "wrap" (by decide +kernel)
  have a5 := ss "same" (by decide +kernel)
  have a6 := ss "join" (by decide +kernel)
  have sm : ∀ ds : List PyData, (∀ x ∈ ds, Sm 40 x) → Sm 50 (.tuple ds) := fun ds h => (sm_tup h).le (by decide)
  have i0 : inB (.int 0) 0 ((n : Nat) - 1) = true := by
    show (decide ((0 : Int) ≤ 0) && decide ((0 : Int) ≤ (n : Nat) - 1)) = true
    rw [decide_eq_true (show (0 : Int) ≤ (n : Nat) - 1 by omega)]
    rfl
  have iN : inB (.int (n : Nat)) 0 ((n : Nat) - 1) = false := by
    show (decide ((0 : Int) ≤ (n : Nat)) && decide (((n : Nat) : Int) ≤ (n : Nat) - 1)) = false
    rw [decide_eq_false (show ¬ ((n : Nat) : Int) ≤ (n : Nat) - 1 by omega), Bool.and_false]
  simp only [odd3, List.mem_cons, List.not_mem_nil, or_false] at h
  rcases h with rfl | rfl | rfl | rfl | rfl | rfl | rfl | rfl | rfl | rfl | rfl
  · exact ⟨.inl rfl, sm _ fun x hx => nomatch hx⟩
  · exact ⟨.inl rfl, sm_none⟩
  · exact ⟨.inl rfl, sm _ (scs (zi _) (scs (a1) sce))⟩
  · refine ⟨.inl ?_, sm _ (scs (zi _) (scs (a1) (scs (a2) sce)))⟩
    show (inB (.int 0) 0 ((n : Nat) - 1) && tailD "left" [.str "A"] n) = false
    rw [show tailD "left" [.str "A"] (n : Nat) = false from by
      unfold tailD
      rw [if_pos (by decide +kernel)]
      exact (by decide +kernel : (decide (([PyData.str "A"] : List PyData).length = 1) && wordD (([PyData.str "A"] : List PyData).getD 0 .none)) = false), Bool.and_false]
  · exact ⟨.inl rfl, (sm_lst (n := 40) (scs (zi _) (scs (a1) (scs (a3) sce)))).le (by decide)⟩
  · refine ⟨.inl ?_, sm _ (scs (zi _) (scs (a1) (scs (a3) sce)))⟩
    show (inB (.int (n : Nat)) 0 ((n : Nat) - 1) && tailD "left" [.str "a"] n) = false
    rw [iN, Bool.false_and]
  · exact ⟨.inl rfl, sm _ (scs (zb) (scs (a1) (scs (a3) sce)))⟩
  · refine ⟨.inl ?_, sm _ (scs (zi _) (scs (a4) (scs (zi _) sce)))⟩
    show (inB (.int 0) 0 ((n : Nat) - 1) && tailD "wrap" [.int 0] n) = false
    rw [show tailD "wrap" [.int 0] (n : Nat) = false from by
      unfold tailD
      rw [if_neg (by decide +kernel), if_neg (by decide +kernel), decide_eq_false (show ¬ ([PyData.int 0] : List PyData).length = 2 by decide), Bool.false_and, Bool.and_false], Bool.and_false]
  · refine ⟨.inl ?_, sm _ (scs (zi _) (scs (a4) (scs (zi _) (scs (zi _) sce))))⟩
    show (inB (.int 0) 0 ((n : Nat) - 1) && tailD "wrap" [.int 0, .int (n : Nat)] n) = false
    rw [show tailD "wrap" [.int 0, .int (n : Nat)] (n : Nat) = false from by
      unfold tailD
      rw [if_neg (by decide +kernel), if_neg (by decide +kernel)]
      show (_ && (_ && (inB (.int 0) 0 ((n : Nat) - 1) && (inB (.int (n : Nat)) 0 ((n : Nat) - 1) && true)))) = false
      rw [iN, Bool.false_and, Bool.and_false, Bool.and_false, Bool.and_false], Bool.and_false]
  · exact ⟨.inr rfl, sm _ (scs (zi _) (scs (a5) (scs (zi _) sce)))⟩
  · refine ⟨.inl ?_, sm _ (scs (zi _) (scs (a6) (scs (zi _) (scs (zi _) sce))))⟩
    show (inB (.int 0) 0 ((n : Nat) - 1) && tailD "join" [.int 0, .int 0] n) = false
    rw [show tailD "join" [.int 0, .int 0] (n : Nat) = false from by
      unfold tailD
      rw [if_neg (by decide +kernel), if_neg (by decide +kernel), show inS "join" TSH = false by decide +kernel, Bool.false_and], Bool.and_false]
theorem self_back {n : Nat} {rs : List PyData} (h1 : 1 ≤ n) (h : ∀ r ∈ rs, ruleD r n = true) (hm : PyData.tuple [.int 0, .str "same", .int 0] ∈ rs) : (backK (edges rs) n).isSome = true := by
  have hE : (((0 : Int), (0 : Int))) ∈ edges rs := List.mem_map.mpr ⟨_, List.mem_filter.mpr ⟨hm, by decide +kernel⟩, rfl⟩
  have b := backK_bk (E := edges rs) (n := n) fun a b hab => (edges_in h a b hab).2.2
  cases hb : backK (edges rs) n with
  | some k => rfl
  | none =>
    rw [hb] at b
    cases b with
    | none b => exact absurd (Gm.Rch.one hE) (b 0 (Int.le_refl 0) (by omega))
theorem put3 {n : Nat} {rs : List PyData} {d : PyData} (G : SG n rs) (h : d ∈ odd3 n) : putO n rs (.int 0) d = .rule d := by
  obtain ⟨hr, _⟩ := odd3_is G.n1 h
  unfold putO
  rw [inB_i (Int.le_refl 0), decide_eq_true (show (0 : Int) ≤ (rs.length : Nat) by omega), if_neg (by decide)]
  rcases hr with hr | rfl
  · rw [hr, if_pos (by rfl)]
  · by_cases hc : (!ruleD (.tuple [.int 0, .str "same", .int 0]) n || decide (12 ≤ rs.length)) = true
    · rw [if_pos hc]
    · rw [if_neg hc]
      unfold editO
      rw [if_pos (self_back G.n1 (fun r hr => ?_) (by show _ ∈ rs.take 0 ++ _; exact List.mem_append_right _ List.mem_cons_self))]
      rcases putR_mem hr with rfl | hr
      · cases hx : ruleD (.tuple [.int 0, .str "same", .int 0]) n with
        | true => rfl
        | false => rw [hx] at hc; exact absurd rfl hc
      · exact (G.ok r hr).1
theorem turn3 {n : Nat} {rs : List PyData} {d : PyData} (G : SG n rs) (h : d ∈ odd3 n) : turnO n rs (.int 0) d = .rule d := by
  have l1 := G.l1
  obtain ⟨hr, _⟩ := odd3_is G.n1 h
  unfold turnO
  rw [inB_i (Int.le_refl 0), decide_eq_true (show (0 : Int) ≤ (rs.length : Nat) - 1 by omega), if_neg (by decide)]
  rcases hr with hr | rfl
  · rw [hr, if_pos (by rfl)]
  · by_cases hc : (!ruleD (.tuple [.int 0, .str "same", .int 0]) n) = true
    · rw [if_pos hc]
    · rw [if_neg hc]
      unfold editO
      rw [if_pos (self_back G.n1 (fun r hr => ?_) (by show _ ∈ rs.take 0 ++ _; exact List.mem_append_right _ List.mem_cons_self))]
      rcases putR_mem hr with rfl | hr
      · cases hx : ruleD (.tuple [.int 0, .str "same", .int 0]) n with
        | true => rfl
        | false => rw [hx] at hc; exact absurd rfl hc
      · exact (G.ok r hr).1
theorem oc_sm {n : Nat} {d : PyData} (h : Sm 50 d) : Sm 60 (ocD n (.num d)) ∧ Sm 60 (ocD n (.rule d)) := by
  have f : ∀ s : Str, strOk s = true → Sm 60 (.tuple [.str s, d]) := fun s hs => (sm_tup (n := 50) (scs (sm_str hs) (scs (h) sce))).le (by decide)
  exact ⟨f _ (by decide +kernel), f _ (by decide +kernel)⟩
variable {c0 c1 c2 CP cR cU cN CD : Addr}
def spRef (K : PySem.W.Frag) (CP CD : Addr) : Sp := fun vs H Q _ => ∃ (S : Sn) (vg : V), vs = [.ref S.d, vg] ∧ At3 K CP CD S H ∧ S.bs.length ≤ 900 ∧ SG S.n S.rs ∧ Dd K S.B vg (.tuple [.int (S.n : Nat), .tuple S.rs]) ∧
  ∀ B' H' L3', Ow S.F S.B0 S.H0 B' H' (L3' ++ S.L) → Ex S.B B' → DkD K CP CD S.n S.rs S.bs S.es S.d L3' B' → Q (.bl true) H'

abbrev s_law_are_refused : Stmt := topS 121
abbrev N_law_are_refused : List Str := ["desk", "grammar", "kinds", "rules", "odd"]
theorem sc_law_are_refused : FnScope N_law_are_refused ["desk", "grammar"] (defScope s_law_are_refused) := ⟨rfl, rfl, rfl, by decide +kernel, rfl, by decide +kernel, by decide +kernel⟩
theorem ok_law_are_refused (F : Fun K "_law_are_refused" "_law_are_refused" s_law_are_refused f fd) (T : TK P w K mg base c0 c1 c2 CP cR cU cN CD) (C_law_deed : Callee P w K mg base "_law_deed" 10 ["desk", "edit"] (spDeed K CP CD)) : FnOk P w K mg base CX0 11 f fd ["desk", "grammar"] (spRef K CP CD) := by
  refine F.ok sc_law_are_refused (fun vs H Q E h => ?_) (fun cdv A outer s H vs Q E hr h => ?_)
  · obtain ⟨S, vg, rfl, _⟩ := h
    rfl
  · obtain ⟨⟨F, B0, H0, B, L3, L, n, rs, bs, es, d⟩, vg, rfl, ⟨w, hd, lb, le⟩, l9, G, hg, q⟩ := h
    have hu64 : (A.deeper (envOfC "_law_are_refused" (defScope s_law_are_refused) s.heap.objs.size f cdv)).units + 64 < cLine := hr.units
    refine ⟨_, (pss_cons (ps_asg (pv 1) (pg_tupK K (n := 2) rfl (pgs_cons (pg_name (i := 2) sc_law_are_refused.nd rfl (Or.inl rfl)) (pgs_cons (pg_name (i := 3) sc_law_are_refused.nd rfl (Or.inl rfl)) pgs_nil))))
      (pss_cons (ps_for PassesOwn.never rfl (pi_seqK K (pe_lst (pa_cons (pe_un un_neg pe_int) (pa_cons (pe_callB (call_lenK K) (by rfl) T.m_len bt_len (pa_cons (pv 3) pa_nil)) (pa_cons pe_non (pa_cons pe_bl (pa_cons pe_str (pa_cons (pe_tup (pa_cons pe_int pa_nil)) (pa_cons (pe_lst (pa_cons pe_int pa_nil)) pa_nil))))))))) (pg_name (i := 4) sc_law_are_refused.nd rfl (Or.inl rfl)) (pss_one (ps_if (PW.pt (pw_or (pt_cmpR (op_neDK K hu64) (pe_callC C_law_deed (hr.mono (by decide)) rfl pass0 (pa_cons (pv 0) (pa_cons (pe_tup (pa_cons pe_str (pa_cons (pe_tup (pa_cons (pv 4) pa_nil)) pa_nil))) pa_nil))) (pe_tup (pa_cons pe_str (pa_cons (pv 4) pa_nil))) (nomark _)) (pw_or1 (pt_cmpR (op_neDK K hu64) (pe_callC C_law_deed (hr.mono (by decide)) rfl pass0 (pa_cons (pv 0) (pa_cons (pe_tup (pa_cons pe_str (pa_cons (pe_tup (pa_cons (pv 4) (pa_cons pe_non pa_nil))) pa_nil))) pa_nil))) (pe_tup (pa_cons pe_str (pa_cons (pv 4) pa_nil))) (nomark _))))) (pss_one (ps_ret pe_bl)) pss_nil)))
      (pss_cons (ps_for PassesOwn.never rfl (pi_seqK K (pe_lst (pa_cons (pe_un un_neg pe_int) (pa_cons (pe_op (op_addK K) (pe_callB (call_lenK K) (by rfl) T.m_len bt_len (pa_cons (pv 3) pa_nil)) pe_int) (pa_cons pe_non (pa_cons pe_bl (pa_cons pe_str (pa_cons (pe_lst (pa_cons pe_int pa_nil)) pa_nil)))))))) (pg_name (i := 4) sc_law_are_refused.nd rfl (Or.inl rfl)) (pss_one (ps_if (pt_cmpR (op_neDK K hu64) (pe_callC C_law_deed (hr.mono (by decide)) rfl pass0 (pa_cons (pv 0) (pa_cons (pe_tup (pa_cons pe_str (pa_cons (pe_tup (pa_cons (pv 4) (pa_cons pe_non pa_nil))) pa_nil))) pa_nil))) (pe_tup (pa_cons pe_str (pa_cons (pv 4) pa_nil))) (nomark _)) (pss_one (ps_ret pe_bl)) pss_nil)))
      (pss_cons (ps_for PassesOwn.never rfl (pi_seqK K (pe_lst (pa_cons (pe_tup pa_nil) (pa_cons pe_non (pa_cons (pe_tup (pa_cons pe_int (pa_cons pe_str pa_nil))) (pa_cons (pe_tup (pa_cons pe_int (pa_cons pe_str (pa_cons pe_str pa_nil)))) (pa_cons (pe_lst (pa_cons pe_int (pa_cons pe_str (pa_cons pe_str pa_nil)))) (pa_cons (pe_tup (pa_cons (pv 2) (pa_cons pe_str (pa_cons pe_str pa_nil)))) (pa_cons (pe_tup (pa_cons pe_bl (pa_cons pe_str (pa_cons pe_str pa_nil)))) (pa_cons (pe_tup (pa_cons pe_int (pa_cons pe_str (pa_cons pe_int pa_nil)))) (pa_cons (pe_tup (pa_cons pe_int (pa_cons pe_str (pa_cons pe_int (pa_cons (pv 2) pa_nil))))) (pa_cons (pe_tup (pa_cons pe_int (pa_cons pe_str (pa_cons pe_int pa_nil)))) (pa_cons (pe_tup (pa_cons pe_int (pa_cons pe_str (pa_cons pe_int (pa_cons pe_int pa_nil))))) pa_nil))))))))))))) (pg_name (i := 4) sc_law_are_refused.nd rfl (Or.inl rfl)) (pss_one (ps_if (PW.pt (pw_or (pt_cmpR (op_neDK K hu64) (pe_callC C_law_deed (hr.mono (by decide)) rfl pass0 (pa_cons (pv 0) (pa_cons (pe_tup (pa_cons pe_str (pa_cons (pe_tup (pa_cons pe_int (pa_cons (pv 4) pa_nil))) pa_nil))) pa_nil))) (pe_tup (pa_cons pe_str (pa_cons (pv 4) pa_nil))) (nomark _)) (pw_or1 (pt_cmpR (op_neDK K hu64) (pe_callC C_law_deed (hr.mono (by decide)) rfl pass0 (pa_cons (pv 0) (pa_cons (pe_tup (pa_cons pe_str (pa_cons (pe_tup (pa_cons pe_int (pa_cons (pv 4) pa_nil))) pa_nil))) pa_nil))) (pe_tup (pa_cons pe_str (pa_cons (pv 4) pa_nil))) (nomark _))))) (pss_one (ps_ret pe_bl)) pss_nil)))
      (pss_one (ps_ret pe_bl)))))), ?_⟩
    dsimp only at w hd lb le l9 G hg q
    have n1 := G.n1
    refine wo_unpP w (ed_var (i := 1) rfl hg) fun v2 v3 B1 H1 w1 e1 g2 g3 => ?_
    have hd1 := hd.up e1
    obtain rfl := dd_int g2
    let J : Nat → L2.St → Hp → Hp → Prop := fun _ σ' B' H' => ∃ o4 L3', σ' = [some (.ref d), some vg, some (.int (n : Nat)), some v3, o4] ∧ Ow F B0 H0 B' H' (L3' ++ L) ∧ DkD K CP CD n rs bs es d L3' B' ∧ Ex B1 B'
    have hj : ∀ i σ' B' H', J i σ' B' H' → Ex B' H' := fun i σ' B' H' ⟨_, _, _, w', _⟩ => w'.k.e
    have len : ∀ {F : Fm} {σ : L2.St} {B5 : Hp}, Ex B1 B5 → σ[3]? = some (some v3) → ED F K (tCB (rLnK K) (tCons (tVar 3) tNil)) σ B5 (.int (rs.length : Nat)) := fun e h => ev_cb (eds_cons (ed_var h (g3.up e)) eds_nil) (rc_len rfl)
    have l0 : ∀ {F : Fm} {σ : L2.St} {B5 : Hp}, ED F K (tLst (tCons (tC (.int 0)) tNil)) σ B5 (.list [.int 0]) := ed_lst (eds_cons ed_int eds_nil)
    have t0 : ∀ {F : Fm} {σ : L2.St} {B5 : Hp}, ED F K (tTup (tCons (tC (.int 0)) tNil)) σ B5 (.tuple [.int 0]) := ed_tup (eds_cons ed_int eds_nil)
    have m1 : ∀ {F : Fm} {σ : L2.St} {B5 : Hp}, ED F K (tUn (rU fun i => .int (-i)) (tC (.int 1))) σ B5 (.int (-1)) := ed_neg (K := K) (ed_int (i := 1))
    have tn : ∀ {F : Fm} {σ : L2.St} {B5 : Hp} {v : V} {x : PyData} (s : Str), s.length ≤ 100 → σ[4]? = some (some v) → Dd K B5 v x → ED F K (tTup (tCons (tC (.str s)) (tCons (tVar 4) tNil))) σ B5 (.tuple [.str s, x]) := fun s hs h4 hx => ed_tup (eds_cons (ed_v (.str s (by rw [sizeLine_eq]; omega))) (eds_cons (ed_var h4 hx) eds_nil))
    refine oq_forD (K := K) (F := F) (g := gName 4) (ds := odd1 rs.length) w1.k (ev_seqL (ed_lst (eds_cons m1 (eds_cons (len (Ex.refl _) rfl) (eds_cons ed_non (eds_cons ed_bl (eds_cons ed_str (eds_cons t0 (eds_cons l0 eds_nil))))))))) J hj (fun B2 H2 s2 k2 => ⟨_, L3, rfl, w1.pass s2 k2, hd1.up s2.bb, s2.bb⟩) (fun Bb i x v σ' B2 H2 hx ec e2 hv hj2 => ?_) (fun σ' B2 H2 e2 hj2 => ?_)
    · obtain ⟨o4, L32, rfl, w2, d2, e12⟩ := hj2
      obtain ⟨hin, hsm⟩ := odd1_is (List.mem_of_getElem? hx)
      dsimp only [gName]
      have ho : edO n rs (.take x) = .num x := by
        show takeO rs x = _
        unfold takeO
        rw [if_pos hin]
      have ho2 : edO n rs (.turn x .none) = .num x := by
        show turnO n rs x .none = _
        unfold turnO
        rw [if_pos hin]
      refine tt_ref (ed := .take x) ho ⟨rfl, rfl, rfl⟩ w2 d2 G l9 le rfl (ed_tup (eds_cons ed_str (eds_cons (ed_tup (eds_cons (ed_var (i := 4) rfl hv) eds_nil)) eds_nil))) (fun F' B' e' => tn "number" (by decide) rfl (hv.up e')) (oc_sm hsm).1 fun B3 H3 L33 w3 e3 d3 => ?_
      refine tt_ref (ed := .turn x .none) ho2 ⟨rfl, rfl, rfl⟩ w3 d3 G l9 le rfl (ed_tup (eds_cons ed_str (eds_cons (ed_tup (eds_cons (ed_var (i := 4) rfl (hv.up e3)) (eds_cons ed_non eds_nil))) eds_nil))) (fun F' B' e' => tn "number" (by decide) rfl (hv.up (e3.trans e'))) (oc_sm hsm).1 fun B4 H4 L34 w4 e4 d4 => ?_
      exact ⟨B4, (e2.trans e3).trans e4, _, L34, rfl, w4, d4, (e12.trans e3).trans e4⟩
    obtain ⟨o4, L32, rfl, w2, d2, e12⟩ := hj2
    refine oq_forD (K := K) (F := F) (g := gName 4) (ds := odd2 rs.length) w2.k (ev_seqL (ed_lst (eds_cons m1 (eds_cons (ed_op (len e12 rfl) (ed_int (K := K) (i := 1)) rd_add) (eds_cons ed_non (eds_cons ed_bl (eds_cons ed_str (eds_cons l0 eds_nil)))))))) J hj (fun B3 H3 s3 k3 => ⟨_, L32, rfl, w2.pass s3 k3, d2.up s3.bb, e12.trans s3.bb⟩) (fun Bb i x v σ' B3 H3 hx ec e3 hv hj3 => ?_) (fun σ' B3 H3 e3 hj3 => ?_)
    · obtain ⟨o4, L33, rfl, w3, d3, e13⟩ := hj3
      obtain ⟨hin, hsm⟩ := odd2_is (List.mem_of_getElem? hx)
      dsimp only [gName]
      have ho : edO n rs (.put x .none) = .num x := by
        show putO n rs x .none = _
        unfold putO
        rw [if_pos hin]
      refine tt_ref (ed := .put x .none) ho ⟨rfl, rfl, rfl⟩ w3 d3 G l9 le rfl (ed_tup (eds_cons ed_str (eds_cons (ed_tup (eds_cons (ed_var (i := 4) rfl hv) (eds_cons ed_non eds_nil))) eds_nil))) (fun F' B' e' => tn "number" (by decide) rfl (hv.up e')) (oc_sm hsm).1 fun B4 H4 L34 w4 e4 d4 => ?_
      exact ⟨B4, e3.trans e4, _, L34, rfl, w4, d4, e13.trans e4⟩
    obtain ⟨o4, L33, rfl, w3, d3, e13⟩ := hj3
    refine oq_forD (K := K) (F := F) (g := gName 4) (ds := odd3 n) w3.k (ev_seqL (ed_lst (eds_cons (ed_tup eds_nil) (eds_cons ed_non (eds_cons (ed_tup (eds_cons ed_int (eds_cons ed_str eds_nil))) (eds_cons (ed_tup (eds_cons ed_int (eds_cons ed_str (eds_cons ed_str eds_nil)))) (eds_cons (ed_lst (eds_cons ed_int (eds_cons ed_str (eds_cons ed_str eds_nil)))) (eds_cons (ed_tup (eds_cons (ed_var (i := 2) rfl (.int (n : Nat))) (eds_cons ed_str (eds_cons ed_str eds_nil)))) (eds_cons (ed_tup (eds_cons ed_bl (eds_cons ed_str (eds_cons ed_str eds_nil)))) (eds_cons (ed_tup (eds_cons ed_int (eds_cons ed_str (eds_cons ed_int eds_nil)))) (eds_cons (ed_tup (eds_cons ed_int (eds_cons ed_str (eds_cons ed_int (eds_cons (ed_var (i := 2) rfl (.int (n : Nat))) eds_nil))))) (eds_cons (ed_tup (eds_cons ed_int (eds_cons ed_str (eds_cons ed_int eds_nil)))) (eds_cons (ed_tup (eds_cons ed_int (eds_cons ed_str (eds_cons ed_int (eds_cons ed_int eds_nil))))) eds_nil))))))))))))) J hj (fun B4 H4 s4 k4 => ⟨_, L33, rfl, w3.pass s4 k4, d3.up s4.bb, e13.trans s4.bb⟩) (fun Bb i x v σ' B4 H4 hx ec e4 hv hj4 => ?_) (fun σ' B4 H4 e4 hj4 => ?_)
    · obtain ⟨o4, L34, rfl, w4, d4, e14⟩ := hj4
      have hm := List.mem_of_getElem? hx
      obtain ⟨_, hsm⟩ := odd3_is n1 hm
      dsimp only [gName]
      refine tt_ref (ed := .put (.int 0) x) (put3 G hm) ⟨rfl, rfl, rfl⟩ w4 d4 G l9 le rfl (ed_tup (eds_cons ed_str (eds_cons (ed_tup (eds_cons ed_int (eds_cons (ed_var (i := 4) rfl hv) eds_nil))) eds_nil))) (fun F' B' e' => tn "rule" (by decide) rfl (hv.up e')) (oc_sm hsm).2 fun B5 H5 L35 w5 e5 d5 => ?_
      refine tt_ref (ed := .turn (.int 0) x) (turn3 G hm) ⟨rfl, rfl, rfl⟩ w5 d5 G l9 le rfl (ed_tup (eds_cons ed_str (eds_cons (ed_tup (eds_cons ed_int (eds_cons (ed_var (i := 4) rfl (hv.up e5)) eds_nil))) eds_nil))) (fun F' B' e' => tn "rule" (by decide) rfl (hv.up (e5.trans e'))) (oc_sm hsm).2 fun B6 H6 L36 w6 e6 d6 => ?_
      exact ⟨B6, (e4.trans e5).trans e6, _, L36, rfl, w6, d6, (e14.trans e5).trans e6⟩
    obtain ⟨o4, L34, rfl, w4, d4, e14⟩ := hj4
    exact q B4 H4 L34 w4 (e1.trans e14) d4


end
end K50

namespace K50
open PySem PySem.Spec PyProof.Rows L2 Evl Ex Dx StX
open PySem.PyData (strOk)
section
variable {P : Program} {w : World} {K : PySem.W.Frag} {mg : Str → Option Value} {base : Heap} {f : Addr} {fd : FuncData}


/-! ### lists of one's own, read; new desks -/
section
variable {F : Fm} {L : List (Addr × HO)} {hn : ∀ p ∈ L, nT p.2} {σ : L2.St} {B B0 H0 H : Hp} {i n : Nat} {na : Addr} {xs : List V} {ds : List PyData} {d : PyData} {j : Int} {tk te tg : TE} {rs : List PyData}
theorem ed_ixO (hm : (na, HO.lst xs) ∈ L) (hi : σ[i]? = some (some (.ref na))) (hk : ED (F.wL L hn) K tk σ B (.int j)) (hx : DdAll K B xs ds) (e : atI ds j = some d) : ED (F.wL L hn) K (tOp (rIx K) (tVar i) tk) σ B d := fun B1 e1 H1 j1 Q q =>
  ⟨.ref na, hi, hk B1 e1 H1 j1 _ fun v B2 H2 s2 j2 g => by
    obtain ⟨y, e2, h2⟩ := atI_data (hx.up (e1.trans s2.bb)) e
    exact .inl ⟨na, xs, j, y, rfl, dd_int g, sq_of (j2.j.2 _ hm), e2, q _ B2 H2 s2 j2 h2⟩⟩
theorem te_desk {CP CD : Addr} {E : L2.St → XK} {Q : VK} (w : Ow F B0 H0 B H L) (ha : EV (F.wL L w.nt) te σ B (InsP K CP (.int (n : Nat)) (.tuple rs))) (q : ∀ x B' H' L3', Ow F B0 H0 B' H' (L3' ++ L) → Ex B B' → DkD K CP CD n rs [] [] x L3' B' → Q (.ref x) H') : tMakeS CD (spDin K CP CD) E (tCons te tNil) σ H Q :=
  ha B (Ex.refl B) H w.ok _ fun v B1 H1 s1 k1 hp x dx hx hdx hne => by
    have w3 := ((w.back s1 k1).new (o := .own x) hdx trivial).new (a := x) (o := .ins CD dx []) (by rw [upd_ne hne.symm]; exact hx) trivial
    obtain ⟨w4, e4⟩ := w3.swap.drop
    exact ⟨F, B0, H0, _, L, x, dx, n, rs, v, rfl, w4, upc_ins _ _ _ e4 hp, fun B' H' L3' w' e' d' => ⟨rfl, q x B' H' L3' w' (s1.bb.trans (e4.trans e')) d'⟩⟩
theorem wo_desk {CP CD : Addr} {E : L2.St → XK} {tz : L2.TS} {D : Ends} (w : Ow F B0 H0 B H L) (ha : EV (F.wL L w.nt) te σ B (InsP K CP (.int (n : Nat)) (.tuple rs))) (q : ∀ x B' H' L3', Ow F B0 H0 B' H' (L3' ++ L) → Ex B B' → DkD K CP CD n rs [] [] x L3' B' → tz D (σ.set i (some (.ref x))) H') : tSeq (tAsg (tMakeS CD (spDin K CP CD) E (tCons te tNil)) (gName i)) tz D σ H := by
  unfold tSeq tAsg
  exact te_desk w ha fun x B' H' L3' w' e' d' => q x B' H' L3' w' e' d'
theorem ow_tails : ∀ {L3 : List (Addr × HO)}, Ow F B0 H0 B H (L3 ++ L) → Ow F B0 H0 B H L
  | [], w => w
  | (_, _) :: _, w => ow_tails (ow_tail w)
theorem ev_mk {CP : Addr} {vg : V} (hi : σ[i]? = some (some vg)) (hg : Dd K B vg (.tuple [.int (n : Nat), .tuple rs])) (G : SG n rs) : EV F (tCall (spMade K CP) [] E0 (tCons (tVar i) tNil)) σ B (InsP K CP (.int (n : Nat)) (.tuple rs)) := fun B1 e1 H1 j1 Q1 q1 =>
  ⟨vg, hi, B1, vg, _, _, rfl, j1.e, hg.up e1, G.due, fun v' B' H' s gi => q1 v' B' H' s.pure (j1.pure s) gi⟩
theorem ed_edited {m : Nat} {ed : Ed} (hg : ED F K tg σ B (.tuple [.int (n : Nat), .tuple rs])) (he : ED F K te σ B (edD ed)) (G : SG n rs) (hL : LEd n m ed) (hm : m ≤ 100) : ED F K (tCall (spEdd K) [] E0 (tCons tg (tCons te tNil))) σ B (ocD n (edO n rs ed)) := fun B1 e1 H1 j1 Q1 q1 =>
  hg B1 e1 H1 j1 _ fun vg B2 H2 s2 j2 g2 => he B2 (e1.trans s2.bb) H2 j2 _ fun ve B3 H3 s3 j3 g3 => ⟨B3, vg, ve, n, m, rs, ed, rfl, j3.e, g2.up s3.bb, g3, G, hL, hm, fun v' B' H' s g => q1 v' B' H' ((s2.trans s3).trans s.pure) (j3.pure s) g⟩
end
/-! ### turned to a word -/
theorem word_one {n : Nat} {k : Int} {wd u : Str} (hw : wd ∈ WSH) : isOne (.tuple [.int k, .str wd, .str u]) = false := by
  show inS wd OSH = false
  have : ∀ x ∈ WSH, inS x OSH = false := by decide +kernel
  exact this wd hw
theorem back_word {n : Nat} {rs : List PyData} {i : Nat} {rl : PyData} (G : SG n rs) (h1 : isOne rl = false) : backK (edges (putR rs i 1 rl)) n = none := by
  have e : edges (putR rs i 1 rl) = edges (rs.take i ++ rs.drop (i + 1)) := by
    unfold edges putR
    rw [List.filter_append, List.filter_append, List.filter_cons, if_neg (by rw [h1]; decide)]
  rw [e]
  exact back_less G fun r hr => by
    rcases List.mem_append.mp hr with hr | hr
    · exact List.mem_of_mem_take hr
    · exact List.mem_of_mem_drop hr
theorem turn_word {n : Nat} {rs : List PyData} {c : Int} {rl : PyData} (G : SG n rs) (c0 : 0 ≤ c) (c1 : c < (rs.length : Nat)) (hr : RG n rl) (h1 : isOne rl = false) : edO n rs (.turn (.int c) rl) = .kept (putR rs c.toNat 1 rl) := by
  show turnO n rs (.int c) rl = _
  unfold turnO
  rw [inB_i c0, decide_eq_true (show c ≤ (rs.length : Nat) - 1 by omega), if_neg (by decide), hr.1, if_neg (by decide)]
  unfold editO
  rw [show (numI (.int c)).toNat = c.toNat from rfl, back_word G h1, if_neg (by decide)]
section
variable {F : Fm} {B0 H0 B H : Hp} {L : List (Addr × HO)} {na : Addr} {xs : List V} {σ : L2.St} {to te : TE} {D : Ends} {Z : PV} {t u : TT}
theorem wo_appS (w : Ow F B0 H0 B H ((na, .lst xs) :: L)) (ho : Lk to σ H (.ref na)) (h : EV (F.wL ((na, .lst xs) :: L) w.nt) te σ B Z) (hl : xs.length < 16777216) (q : ∀ v B5 H5, Ow F B0 H0 B5 H5 ((na, .lst (xs ++ [v])) :: L) → Ex B B5 → Z v B5 → D.nx σ H5) : tDrop (tBM K "list" rAppend to (tCons te tNil)) D σ H :=
  ho _ (.inl ⟨rfl, _, sq_of w.here⟩ |> fun h0 => ⟨h0, h B (Ex.refl B) H w.ok _ fun v B5 H5 s5 k5 p => ⟨na, xs, v, rfl, rfl, (w.back s5 k5).here, by rw [sizeLine_eq]; exact hl, q v B5 _ ((w.back s5 k5).set _ trivial) s5.bb p⟩⟩)
theorem PW_or2 (h1 : ETt F t σ B false) (h2 : ETt F u σ B false) : ETt F (tOr t u) σ B false := et_or h1 fun _ => h2
end
def gD (n : Nat) (r : List PyData) : PyData := .tuple [.int (n : Nat), .tuple r]
variable {c0 c1 c2 CP cR cU cN CD : Addr} {fI fD : Addr} {fdI fdD : FuncData}
def spWb (K : PySem.W.Frag) : Sp := fun vs H Q _ => ∃ (p : Addr) (B0 H0 B : Hp) (L : List (Addr × HO)) (vg : V) (n : Nat) (rs : List PyData), vs = [.ref p, vg] ∧ Ow (Fm.box p) B0 H0 B H L ∧ SG n rs ∧ Dd K B vg (.tuple [.int (n : Nat), .tuple rs]) ∧
  ∀ B' H', Ow (Fm.box p) B0 H0 B' H' L → Ex B B' → Q (.bl true) H'

abbrev s_law_is_walked_back : Stmt := topS 122
abbrev N_law_is_walked_back : List Str := ["box", "grammar", "desk", "states", "k", "at", "edit"]
theorem sc_law_is_walked_back : FnScope N_law_is_walked_back ["box", "grammar"] (defScope s_law_is_walked_back) := ⟨rfl, rfl, rfl, by decide +kernel, rfl, by decide +kernel, by decide +kernel⟩
theorem ok_law_is_walked_back (F : Fun K "_law_is_walked_back" "_law_is_walked_back" s_law_is_walked_back f fd) (T : TK P w K mg base c0 c1 c2 CP cR cU cN CD) (M_Desk : Mk K CD fD) (G_Desk : FnOk P w K mg base CX0 1 fD fdD ["self", "pairs"] (spDin K CP CD)) (B_Desk : L2.Binds K fdD ["self", "pairs"] []) (C_law_made : Callee P w K mg base "_law_made" 7 ["grammar"] (spMade K CP)) (C_law_take : Callee P w K mg base "_law_take" 1 ["box", "many"] (spTake K)) (C_law_pick : Callee P w K mg base "_law_pick" 2 ["box", "some"] (spPick K)) (C_law_do : CalleeX P w K mg base "_law_do" 9 ["desk", "edit"] (spLdo K CP CD c0 cR cU)) (C_law_edited : Callee P w K mg base "_law_edited" 2 ["grammar", "edit"] (spEdd K)) (C_law_now : Callee P w K mg base "_law_now" 1 ["desk"] (spNow K CP CD)) (M_undo : Mt.MethX P w K mg base (L2.CX P w) CD "undo" 3 ["self"] (spUndo K CP CD)) (M_redo : Mt.MethX P w K mg base (L2.CX P w) CD "redo" 3 ["self"] (spRedo K CP CD)) : FnOk P w K mg base CX0 10 f fd ["box", "grammar"] (spWb K) := by
  refine F.ok sc_law_is_walked_back (fun vs H Q E h => ?_) (fun cdv A outer s H vs Q E hr h => ?_)
  · obtain ⟨p, B0, H0, B, L, vg, n, rs, rfl, _⟩ := h
    rfl
  · obtain ⟨p, B0, H0, B, L, vg, n, rs, rfl, w, G, hg, q⟩ := h
    have hu64 : (A.deeper (envOfC "_law_is_walked_back" (defScope s_law_is_walked_back) s.heap.objs.size f cdv)).units + 64 < cLine := hr.units
    refine ⟨_, (pss_cons (ps_set (i := 2) sc_law_is_walked_back.nd rfl (Or.inl rfl) (pe_makeS M_Desk G_Desk (hr.mono (by decide)) rfl T.g_Desk B_Desk pass0S (pa_cons (pe_callC C_law_made (hr.mono (by decide)) rfl pass0 (pa_cons (pv 1) pa_nil)) pa_nil)))
      (pss_cons (ps_set (i := 3) sc_law_is_walked_back.nd rfl (Or.inl rfl) (pe_lst (pa_cons (pv 1) pa_nil)))
      (pss_cons (ps_for PassesOwn.never rfl (pi_range1 rfl T.m_range (pa_cons pe_int pa_nil)) (pg_name (i := 4) sc_law_is_walked_back.nd rfl (Or.inl rfl)) (pss_cons (ps_set (i := 5) sc_law_is_walked_back.nd rfl (Or.inl rfl) (pe_callC C_law_take (hr.mono (by decide)) rfl pass0 (pa_cons (pv 0) (pa_cons (pe_callB (call_lenK K) (by rfl) T.m_len bt_len (pa_cons (pe_ix (ix_seqK K) (pv 1) pe_int (fun _ _ => rfl)) pa_nil)) pa_nil))))
      (pss_cons (ps_set (i := 6) sc_law_is_walked_back.nd rfl (Or.inl rfl) (pe_tup (pa_cons pe_str (pa_cons (pe_tup (pa_cons (pv 5) (pa_cons (pe_tup (pa_cons (pe_callC C_law_take (hr.mono (by decide)) rfl pass0 (pa_cons (pv 0) (pa_cons (pe_ix (ix_seqK K) (pv 1) pe_int (fun _ _ => rfl)) pa_nil))) (pa_cons (pe_callC C_law_pick (hr.mono (by decide)) rfl pass0 (pa_cons (pv 0) (pa_cons (pe_lst (pa_cons pe_str (pa_cons pe_str pa_nil))) pa_nil))) (pa_cons (pe_callC C_law_pick (hr.mono (by decide)) rfl pass0 (pa_cons (pv 0) (pa_cons (pe_lst (pa_cons pe_str (pa_cons pe_str (pa_cons pe_str pa_nil)))) pa_nil))) pa_nil)))) pa_nil))) pa_nil))))
      (pss_cons (ps_expr (pe_callX C_law_do (hr.mono (by decide)) rfl (fun σ => passAt takes0 σ) (pa_cons (pv 2) (pa_cons (pv 6) pa_nil))))
      (pss_one (ps_expr (pe_bm PySem.F.plainAttrs_list PySem.F.slot_list_append PySem.F.type_list_append mt_append (pv 3) (pa_cons (pe_ix (ix_seqK K) (pe_callC C_law_edited (hr.mono (by decide)) rfl pass0 (pa_cons (pe_ix (ix_seqK K) (pv 3) (pe_un un_neg pe_int) (fun _ _ => rfl)) (pa_cons (pv 6) pa_nil))) pe_int (fun _ _ => rfl)) pa_nil))))))))
      (pss_cons (ps_for PassesOwn.never rfl (pi_range1 rfl T.m_range (pa_cons pe_int pa_nil)) (pg_name (i := 4) sc_law_is_walked_back.nd rfl (Or.inl rfl)) (pss_cons (ps_expr (Mt.pe_methX0 M_undo T.cD (hr.mono (by decide)) (fun σ => passAt takes0 σ) (pv 2)))
      (pss_one (ps_if (PW.pt (pw_or (pt_cmpR (op_neDK K hu64) (pe_callC C_law_now (hr.mono (by decide)) rfl pass0 (pa_cons (pv 2) pa_nil)) (pe_ix (ix_seqK K) (pv 3) (pe_op op_sub pe_int (pv 4)) (fun _ _ => rfl)) (nomark _)) (pw_or1 (pt_cmpR (op_neDK K hu64) (pe_fldK K (pv 2)) (pe_op op_sub pe_int (pv 4)) (nomark _))))) (pss_one (ps_ret pe_bl)) pss_nil))))
      (pss_cons (ps_for PassesOwn.never rfl (pi_range1 rfl T.m_range (pa_cons pe_int pa_nil)) (pg_name (i := 4) sc_law_is_walked_back.nd rfl (Or.inl rfl)) (pss_cons (ps_expr (Mt.pe_methX0 M_redo T.cD (hr.mono (by decide)) (fun σ => passAt takes0 σ) (pv 2)))
      (pss_one (ps_if (PW.pt (pw_or (pt_cmpR (op_neDK K hu64) (pe_callC C_law_now (hr.mono (by decide)) rfl pass0 (pa_cons (pv 2) pa_nil)) (pe_ix (ix_seqK K) (pv 3) (pe_op (op_addK K) (pv 4) pe_int) (fun _ _ => rfl)) (nomark _)) (pw_or1 (pt_cmpR (op_neDK K hu64) (pe_fldK K (pv 2)) (pe_op (op_addK K) (pv 4) pe_int) (nomark _))))) (pss_one (ps_ret pe_bl)) pss_nil))))
      (pss_one (ps_ret pe_bl))))))), ?_⟩
    have l1 := G.l1
    have l12 := G.l12
    have n1 := G.n1
    have n8 := G.n8
    refine wo_desk w (ev_mk (i := 1) rfl hg G) fun d B1 H1 L3 w1 e1 d1 => ?_
    have hg1 := hg.up e1
    refine ⟨vg, rfl, by show 1 ≤ sizeLine; decide, fun na hna => ?_⟩
    have w2 := w1.new (o := .lst [vg]) hna trivial
    -- twenty deeds
    let J1 : Nat → L2.St → Hp → Hp → Prop := fun u σ' B' H' => ∃ o4 o5 o6 L3' xs ss cur, σ' = [some (.ref p), some vg, some (.ref d), some (.ref na), o4, o5, o6] ∧ Ow (Fm.box p) B0 H0 B' H' ((na, .lst xs) :: (L3' ++ L)) ∧ DkD K CP CD n cur ss [] d L3' B' ∧ DdAll K B' xs ((ss ++ [cur]).map (gD n)) ∧ ss.length = u ∧ SG n cur ∧ (∀ r ∈ ss, SG n r) ∧ cur.length = rs.length ∧ Ex B1 B'
    refine oq_rng1 (K := K) (F := Fm.box p) (n := 20) (j := 4) w2.k (eds_cons ed_int eds_nil) (by omega) J1 (fun B2 H2 s2 k2 => ⟨_, _, _, L3, [vg], [], rs, rfl, w2.pass s2 k2, d1.up s2.bb, .cons (hg1.up s2.bb) .nil, rfl, G, fun r hr => (nomatch hr), rfl, s2.bb⟩) (fun Bc u σ' B2 H2 ec hu e2 hj => ?_) (fun σ' B2 H2 e2 hj => ?_)
    · obtain ⟨o4, o5, o6, L3', xs, ss, cur, rfl, w3, d3, hx, hl, G3, hall, hcl, e12⟩ := hj
      have hg3 := hg1.up e12
      have lenE : ∀ {σ : L2.St} {B5 : Hp}, Ex B2 B5 → σ[1]? = some (some vg) → ED (Fm.box p) K (tCB (rLnK K) (tCons (tOp (rIx K) (tVar 1) (tC (.int 1))) tNil)) σ B5 (.int (rs.length : Nat)) := fun e h => ev_cb (eds_cons (ed_op (ed_var h (hg3.up e)) ed_int (rd_ixT at2_1)) eds_nil) (rc_len rfl)
      refine wo_asg w3 (Ow.wl w3 (evp_take (K := K) (i := 0) rfl (lenE (Ex.refl _) rfl) (by omega) (by omega))) fun va B3 H3 w4 e3 ⟨c, hc, c0', c1'⟩ => ?_
      have pickE : ∀ {σ : L2.St} {B5 : Hp}, σ[0]? = some (some (.ref p)) → EV (Fm.box p) (tCall (spPick K) [] E0 (tCons (tVar 0) (tCons (tLst (tCons (tC (.str "left")) (tCons (tC (.str "right")) tNil))) tNil))) σ B5 (fun v B => ∃ d, Dd K B v d ∧ ∃ wd : Str, d = .str wd ∧ wd ∈ WSH) := fun h => (ev_pick (K := K) (i := 0) (d := .list ((["left", "right"] : List Str).map .str)) h (ed_lst (eds_cons ed_str (eds_cons ed_str eds_nil))) (.inl rfl) (by decide) (by decide)).imp fun v B2 _ ⟨x, hx, hv⟩ => by
        obtain ⟨u, hu, rfl⟩ := List.mem_map.mp hx
        exact ⟨_, hv, u, rfl, hu⟩
      have pickW : ∀ {σ : L2.St} {B5 : Hp}, σ[0]? = some (some (.ref p)) → EV (Fm.box p) (tCall (spPick K) [] E0 (tCons (tVar 0) (tCons (tLst (tCons (tC (.str "a")) (tCons (tC (.str "b")) (tCons (tC (.str "c")) tNil)))) tNil))) σ B5 (fun v B => ∃ d, Dd K B v d ∧ ∃ wd : Str, d = .str wd ∧ wd ∈ W4) := fun h => (ev_pick (K := K) (i := 0) (d := .list ((["a", "b", "c"] : List Str).map .str)) h (ed_lst (eds_cons ed_str (eds_cons ed_str (eds_cons ed_str eds_nil)))) (.inl rfl) (by decide) (by decide)).imp fun v B2 _ ⟨x, hx, hv⟩ => by
        obtain ⟨u, hu, rfl⟩ := List.mem_map.mp hx
        exact ⟨_, hv, u, rfl, (by decide +kernel : ∀ u ∈ (["a", "b", "c"] : List Str), u ∈ W4) u hu⟩
      have takeK : ∀ {σ : L2.St} {B5 : Hp}, Ex B2 B5 → σ[0]? = some (some (.ref p)) → σ[1]? = some (some vg) → EV (Fm.box p) (tCall (spTake K) [] E0 (tCons (tVar 0) (tCons (tOp (rIx K) (tVar 1) (tC (.int 0))) tNil))) σ B5 (fun v B => ∃ d, Dd K B v d ∧ ∃ k : Int, d = .int k ∧ 0 ≤ k ∧ k < (n : Nat)) := fun e h0 h1 => (evp_take (K := K) h0 (ed_op (ed_var h1 (hg3.up e)) ed_int (rd_ixT at2_0)) (by omega) (by omega)).imp fun v _ _ ⟨k, hk, k0, k1⟩ => ⟨_, hk, k, rfl, k0, k1⟩
      refine wo_asg (P := fun v B => ∃ rl, Dd K B v (edD (.turn (.int c) rl)) ∧ RG n rl ∧ isOne rl = false) w4 (Ow.wl w4 (EV.imp (ev_tup2 (K := K) (Pa := fun d => d = .str "turn") (Pb := fun d => ∃ rl, d = .tuple [.int c, rl] ∧ RG n rl ∧ isOne rl = false) (ev_any ed_str) (EV.imp (ev_tup2 (K := K) (Pa := fun d => d = .int c) (Pb := fun rl => RG n rl ∧ isOne rl = false) (ev_any (ed_var (i := 5) rfl hc)) (EV.imp (ev_tup3 (takeK e3 rfl rfl) (pickE rfl) (pickW rfl)) fun v _ _ hh => by
          obtain ⟨_, _, _, hv, ⟨k, rfl, k0, k1⟩, ⟨wd, rfl, hw⟩, u, rfl, hu⟩ := hh
          exact ⟨_, hv, rg_word n8 k0 k1 hw ((by decide +kernel : ∀ x ∈ WSH, x ∈ L8) wd hw) hu, word_one (n := n) hw⟩)) fun v _ _ ⟨x, y, hv, hx, hy⟩ => ⟨_, hv, y, by rw [hx], hy⟩)) fun v _ _ hh => by
          obtain ⟨_, _, hv, rfl, rl, rfl, h⟩ := hh
          exact ⟨rl, hv, h⟩)) fun ve B4 H4 w5 e4 ⟨rl, hve, hrl, h1⟩ => ?_
      have e24 := e3.trans e4
      have ho := turn_word G3 c0' (by rw [hcl]; exact c1') hrl h1
      have hk : c.toNat + 1 ≤ cur.length := by omega
      have G4 : SG n (putR cur c.toNat 1 rl) := G3.put hrl hk (by have := G3.l12; omega) (by have := G3.l1; omega) (back_word G3 h1)
      have w6 : Ow (Fm.box p) B0 H0 B4 H4 (L3' ++ (na, .lst xs) :: L) := w5.perm List.perm_middle
      refine ⟨.ref d, rfl, ve, rfl, ⟨Fm.box p, B0, H0, B4, L3', (na, .lst xs) :: L, n, cur, ss, [], d⟩, ve, .turn (.int c) rl, rfl, ⟨w6, d3.up e24, by show ss.length ≤ 1000; omega, Nat.zero_le _⟩, G3, hve, ?_⟩
      show Dn K CP CD c0 cR cU ⟨Fm.box p, B0, H0, B4, L3', (na, .lst xs) :: L, n, cur, ss, [], d⟩ (edO n cur (.turn (.int c) rl)) _ _
      rw [ho]
      intro B5 H5 L35 w7 e5 d5
      have w8 : Ow (Fm.box p) B0 H0 B5 H5 ((na, .lst xs) :: (L35 ++ L)) := w7.perm List.perm_middle.symm
      have hx5 : DdAll K B5 xs ((ss ++ [cur]).map (gD n)) := hx.up (e24.trans e5)
      have e25 : Ex B2 B5 := e24.trans e5
      have hxl := hx5.len
      rw [List.length_map, List.length_append, List.length_singleton] at hxl
      refine wo_appS (Z := DD K (gD n (putR cur c.toNat 1 rl))) w8 (lk_var rfl) (ed_op (ed_is (ed_edited (m := cur.length) (ed_ixO (i := 3) List.mem_cons_self rfl (ed_neg (K := K) (ed_int (i := 1))) hx5 (by rw [List.map_append]; exact atI_last _ _)) (ed_var (i := 6) rfl (hve.up e5)) G3 ⟨c, rfl, c0', by omega, hrl⟩ (by have := G3.l12; omega)) (by rw [ho]; rfl)) ed_int (rd_ixT at2_1)) (by omega) fun v B6 H6 w9 e6 hv6 => ?_
      refine ⟨B6, e2.trans (e25.trans e6), _, _, _, L35, _, ss ++ [cur], putR cur c.toNat 1 rl, rfl, w9, d5.up e6, ?_, by rw [List.length_append, List.length_singleton, hl], G4, fun r hr => (List.mem_append.mp hr).elim (hall r) fun hr => by rw [List.mem_singleton.mp hr]; exact G3, by rw [putR_len hk]; omega, e12.trans (e25.trans e6)⟩
      rw [List.map_append]
      exact (hx5.up e6).snoc hv6
    obtain ⟨o4, o5, o6, L3', xs, ss, cur, rfl, w3, d3, hx, hl, G3, hall, hcl, e12⟩ := hj
    have hl : ss.length = 20 := hl
    obtain ⟨st, hst⟩ : ∃ st, st = ss ++ [cur] := ⟨_, rfl⟩
    rw [← hst] at hx
    have hsl : st.length = 21 := by rw [hst, List.length_append, hl]; rfl
    have l1 : st.length ≤ 21 := by omega
    have at_st : ∀ {a b : List (List PyData)} {r : List PyData}, st = a ++ r :: b → atI (st.map (gD n)) ((a.length : Nat) : Int) = some (gD n r) := fun {a b r} h => atI_nat (by rw [h, List.getElem?_map, List.getElem?_append_right (Nat.le_refl _), Nat.sub_self]; rfl)
    have w4 : Ow (Fm.box p) B0 H0 B2 H2 (L3' ++ (na, .lst xs) :: L) := w3.perm List.perm_middle
    -- back
    let J2 : Nat → L2.St → Hp → Hp → Prop := fun u σ' B' H' => ∃ o4 L3' bs es cur, σ' = [some (.ref p), some vg, some (.ref d), some (.ref na), o4, o5, o6] ∧ Ow (Fm.box p) B0 H0 B' H' (L3' ++ (na, .lst xs) :: L) ∧ DkD K CP CD n cur bs es d L3' B' ∧ st = bs ++ cur :: es.reverse ∧ bs.length + u = 20 ∧ es.length = u ∧ Ex B2 B'
    have cmp : ∀ {te : TE} {σ : L2.St} {B' H' : Hp} {L3' : List (Addr × HO)} {bs es : List (List PyData)} {r : List PyData} (w' : Ow (Fm.box p) B0 H0 B' H' (L3' ++ (na, .lst xs) :: L)), DkD K CP CD n r bs es d L3' B' → st = bs ++ r :: es.reverse → Ex B2 B' → Sm 60 (gD n r) → σ[2]? = some (some (.ref d)) → σ[3]? = some (some (.ref na)) → ED (Fm.wL (Fm.box p) (L3' ++ (na, .lst xs) :: L) w'.nt) K te σ B' (.int (bs.length : Nat)) → ETt (Fm.wL (Fm.box p) (L3' ++ (na, .lst xs) :: L) w'.nt) (tTest (tOp (rNeD K) (tCall (spNow K CP CD) [] E0 (tCons (tVar 2) tNil)) (tOp (rIx K) (tVar 3) te))) σ B' false := fun {te σ B' H' L3' bs es r} w' dd h e hs h2 h3 ht => et_is (et_cmp (K := K) (ed_op (ed_now (i := 2) h2 (dd.st fun p hp => List.mem_append_left _ hp)) (ed_ixO (i := 3) (List.mem_append_right _ List.mem_cons_self) h3 ht (hx.up e) (at_st h)) (rd_neD hs.sh hs.sh))) (by
      show (!PyData.eqv (gD n r) (gD n r)) = false
      rw [eqv_refl _ hs.1]
      rfl)
    have many : ∀ {te : TE} {σ : L2.St} {B' H' : Hp} {L3' : List (Addr × HO)} {bs es : List (List PyData)} {r : List PyData} (w' : Ow (Fm.box p) B0 H0 B' H' (L3' ++ (na, .lst xs) :: L)), DkD K CP CD n r bs es d L3' B' → σ[2]? = some (some (.ref d)) → ED (Fm.wL (Fm.box p) (L3' ++ (na, .lst xs) :: L) w'.nt) K te σ B' (.int (bs.length : Nat)) → ETt (Fm.wL (Fm.box p) (L3' ++ (na, .lst xs) :: L) w'.nt) (tTest (tOp (rNeD K) (tFld K (tVar 2) "many") te)) σ B' false := fun {te σ B' H' L3' bs es r} w' dd h2 ht => by
      obtain ⟨dx, vp, vw, ba, ea, vk, vr, ys, zs, e3, _⟩ := dd.ex
      exact et_is (et_cmp (K := K) (ed_op (x := .int (bs.length : Nat)) (ev_ownP (i := 2) (C := CD) (dx := dx) (fs := dkF vp vw bs.length ba ea vk vr) h2 (List.mem_append_left _ (by rw [e3]; exact List.mem_cons_self)) T.cD T.n_many rfl upc_dd (.int _)) ht (rd_neD rfl rfl))) (by rw [eqv_int]; simp)
    have sms : ∀ r ∈ st, Sm 60 (gD n r) := fun r hr => by
      have Gr : SG n r := by
        rw [hst] at hr
        rcases List.mem_append.mp hr with hr | hr
        · exact hall r hr
        · rw [List.mem_singleton.mp hr]
          exact G3
      exact Sm.le (sm_tup (n := 50) (scs sm_int (scs Gr.sm sce))) (by decide)
    refine oq_rng1 (K := K) (F := Fm.box p) (n := 20) (j := 4) w4.k (eds_cons ed_int eds_nil) (by omega) J2 (fun B3 H3 s3 k3 => ⟨_, L3', ss, [], cur, rfl, w4.pass s3 k3, d3.up s3.bb, hst, hl, rfl, s3.bb⟩) (fun Bc u σ' B3 H3 ec hu e3 hj => ?_) (fun σ' B3 H3 e3 hj => ?_)
    · obtain ⟨o4, L33, bs, es, cur, rfl, w5, d5, hb, hbl, hel, e23⟩ := hj
      obtain ⟨bs', r, rfl⟩ : ∃ bs' r, bs = bs' ++ [r] := ⟨bs.dropLast, bs.getLast (fun z => by rw [z] at hbl; simp at hbl; omega), (List.dropLast_concat_getLast _).symm⟩
      rw [List.length_append, List.length_singleton] at hbl
      obtain ⟨dx, vp, vw, ba, ea, vk, vr, ys, zs, hL, _⟩ := id d5.ex
      have hh : H3 d = some (.ins CD dx (dkF vp vw (bs' ++ [r]).length ba ea vk vr)) := (w5.ow (d, _) (by rw [hL]; exact List.mem_cons_self)).2.2.2.1
      refine ⟨.ref d, rfl, d, dx, _, rfl, hh, rfl, ⟨Fm.box p, B0, H0, B3, L33, (na, .lst xs) :: L, n, cur, bs' ++ [r], es, d⟩, bs', r, rfl, ⟨w5, d5, by show (bs' ++ [r]).length ≤ 1000; rw [List.length_append, List.length_singleton]; omega, by show es.length ≤ 1000; omega⟩, rfl, fun B4 H4 L34 w6 e4 d6 => ?_⟩
      have hst' : st = bs' ++ r :: (es ++ [cur]).reverse := by rw [hb, List.reverse_append, List.append_assoc]; rfl
      have idx : ∀ {F : Fm} {σ : L2.St}, σ[4]? = some (some (.int (u : Int))) → ED F K (tOp (rI0 fun i j => .int (i - j)) (tC (.int 19)) (tVar 4)) σ B4 (.int (bs'.length : Nat)) := fun h => ed_is (ed_op (K := K) ed_int (ed_var h (.int _)) rd_sub) (congrArg PyData.int (by omega))
      refine wo_if (b := false) w6 (PW_or2 (cmp w6 d6 hst' (e23.trans e4) (sms r (by rw [hst']; exact List.mem_append_right _ List.mem_cons_self)) rfl rfl (idx rfl)) (many w6 d6 rfl (idx rfl))) (fun h => nomatch h) fun _ B5 H5 w7 e5 => ?_
      exact ⟨B5, e3.trans (e4.trans e5), _, L34, bs', es ++ [cur], r, rfl, w7, d6.up e5, hst', by omega, by rw [List.length_append, List.length_singleton, hel], e23.trans (e4.trans e5)⟩
    obtain ⟨o4, L33, bs, es, cur3, rfl, w5, d5, hb, hbl, hel, e23⟩ := hj
    have hel : es.length = 20 := hel
    have hbl : bs.length + 20 = 20 := hbl
    let J3 : Nat → L2.St → Hp → Hp → Prop := fun u σ' B' H' => ∃ o4 L3' bs es cur, σ' = [some (.ref p), some vg, some (.ref d), some (.ref na), o4, o5, o6] ∧ Ow (Fm.box p) B0 H0 B' H' (L3' ++ (na, .lst xs) :: L) ∧ DkD K CP CD n cur bs es d L3' B' ∧ st = bs ++ cur :: es.reverse ∧ bs.length = u ∧ es.length + u = 20 ∧ Ex B2 B'
    refine oq_rng1 (K := K) (F := Fm.box p) (n := 20) (j := 4) w5.k (eds_cons ed_int eds_nil) (by omega) J3 (fun B4 H4 s4 k4 => ⟨_, L33, bs, es, cur3, rfl, w5.pass s4 k4, d5.up s4.bb, hb, by omega, by omega, e23.trans s4.bb⟩) (fun Bc u σ' B4 H4 ec hu e4 hj => ?_) (fun σ' B4 H4 e4 hj => ?_)
    · obtain ⟨o4, L34, bs, es, cur, rfl, w6, d6, hb, hbl, hel, e24⟩ := hj
      obtain ⟨es', r, rfl⟩ : ∃ es' r, es = es' ++ [r] := ⟨es.dropLast, es.getLast (fun z => by rw [z] at hel; simp at hel; omega), (List.dropLast_concat_getLast _).symm⟩
      rw [List.length_append, List.length_singleton] at hel
      obtain ⟨dx, vp, vw, ba, ea, vk, vr, ys, zs, hL, _⟩ := id d6.ex
      have hh : H4 d = some (.ins CD dx (dkF vp vw bs.length ba ea vk vr)) := (w6.ow (d, _) (by rw [hL]; exact List.mem_cons_self)).2.2.2.1
      refine ⟨.ref d, rfl, d, dx, _, rfl, hh, rfl, ⟨Fm.box p, B0, H0, B4, L34, (na, .lst xs) :: L, n, cur, bs, es' ++ [r], d⟩, es', r, rfl, ⟨w6, d6, by show bs.length ≤ 1000; omega, by show (es' ++ [r]).length ≤ 1000; rw [List.length_append, List.length_singleton]; omega⟩, rfl, fun B5 H5 L35 w7 e5 d7 => ?_⟩
      have hst' : st = (bs ++ [cur]) ++ r :: es'.reverse := by rw [hb, List.reverse_append, List.append_assoc]; rfl
      have hl7 : (bs ++ [cur]).length = u + 1 := by rw [List.length_append, List.length_singleton, hbl]
      have idx : ∀ {F : Fm} {σ : L2.St}, σ[4]? = some (some (.int (u : Int))) → ED F K (tOp (rAddA K) (tVar 4) (tC (.int 1))) σ B5 (.int ((bs ++ [cur]).length : Nat)) := fun h => ed_is (ed_op (K := K) (ed_var h (.int _)) ed_int rd_add) (congrArg PyData.int (by omega))
      refine wo_if (b := false) w7 (PW_or2 (cmp w7 d7 hst' (e24.trans e5) (sms r (by rw [hst']; exact List.mem_append_right _ List.mem_cons_self)) rfl rfl (idx rfl)) (many w7 d7 rfl (idx rfl))) (fun h => nomatch h) fun _ B6 H6 w8 e6 => ?_
      exact ⟨B6, e4.trans (e5.trans e6), _, L35, bs ++ [cur], es', r, rfl, w8, d7.up e6, hst', hl7, by omega, e24.trans (e5.trans e6)⟩
    obtain ⟨o4, L34, bs4, es4, cur4, rfl, w6, d6, hb4, hbl4, hel4, e24⟩ := hj
    exact q B4 H4 (ow_tail (ow_tails w6)) (e1.trans (e12.trans e24))


end
end K50

namespace K50
open PySem PySem.Spec PyProof.Rows L2 Evl Ex Dx StX
open PySem.PyData (strOk)
section
variable {P : Program} {w : World} {K : PySem.W.Frag} {mg : Str → Option Value} {base : Heap} {f : Addr} {fd : FuncData}


/-! ### desks looked at -/
section
variable {F : Fm} {σ : L2.St} {B : Hp} {i j : Nat} {n : Nat} {rs : List PyData} {bs es : List (List PyData)} {d : Addr} {c0 c1 c2 CP cR cU cN CD : Addr}
theorem rd_notB {a b : Bool} : RD2 F K rNotB B (.bool a) (.bool b) (.bool (!decide (a = b))) := rd_of fun H u v hu hv => ⟨.bl _, fun _ => .bl _, fun Q q => ⟨a, b, dd_bl hu, dd_bl hv, q⟩⟩
theorem ed_wat (T : TK P w K mg base c0 c1 c2 CP cR cU cN CD) (hi : σ[i]? = some (some (.ref d))) (st : StD K CP CD F B n rs bs es d) : ED F K (tFld K (tVar i) "watched") σ B (.tuple []) := by
  obtain ⟨dx, vp, vw, ba, ea, vk, vr, xs, ys, h1, h2, h3, h4, h5, h6⟩ := st.ex
  exact ev_stP (P := DD K (.tuple [])) hi (fun H j => (h1 H j).1) T.cD T.n_watched rfl upc_dd h3
theorem ed_many (T : TK P w K mg base c0 c1 c2 CP cR cU cN CD) (hi : σ[i]? = some (some (.ref d))) (st : StD K CP CD F B n rs bs es d) : ED F K (tFld K (tVar i) "many") σ B (.int (bs.length : Nat)) := by
  obtain ⟨dx, vp, vw, ba, ea, vk, vr, xs, ys, h1, h2, h3, h4, h5, h6⟩ := st.ex
  exact ev_stP (P := DD K (.int (bs.length : Nat))) hi (fun H j => (h1 H j).1) T.cD T.n_many rfl upc_dd (.int _)
theorem ev_prs (T : TK P w K mg base c0 c1 c2 CP cR cU cN CD) (hi : σ[i]? = some (some (.ref d))) (st : StD K CP CD F B n rs bs es d) : EV F (tFld K (tVar i) "pairs") σ B (InsP K CP (.int (n : Nat)) (.tuple rs)) := by
  obtain ⟨dx, vp, vw, ba, ea, vk, vr, xs, ys, h1, h2, h3, h4, h5, h6⟩ := st.ex
  exact ev_stP hi (fun H j => (h1 H j).1) T.cD T.n_pairs rfl upc_ins h2
theorem et_id {n2 : Nat} {r2 : List PyData} {b2 e2 : List (List PyData)} {d2 : Addr} (hi : σ[i]? = some (some (.ref d))) (hj : σ[j]? = some (some (.ref d2))) (s1 : StD K CP CD F B n rs bs es d) (s2 : StD K CP CD F B n2 r2 b2 e2 d2) : ETt F (tTest (tOp (Mt.rIdEq CD) (tVar i) (tVar j))) σ B (decide (d = d2)) := fun B1 e0 H1 j1 Q1 q1 => by
  obtain ⟨dx, vp, vw, ba, ea, vk, vr, xs, ys, h1, _⟩ := s1.ex
  obtain ⟨dx', vp', vw', ba', ea', vk', vr', xs', ys', k1, _⟩ := s2.ex
  exact ⟨.ref d, hi, .ref d2, hj, d, dx, _, d2, dx', _, rfl, rfl, (h1 H1 j1.j).1, (k1 H1 j1.j).1, _, rfl, q1 B1 H1 (Step.refl j1.e) j1⟩
theorem et_now {te : TE} (hi : σ[i]? = some (some (.ref d))) (st : StD K CP CD F B n rs bs es d) (G : Sm 60 (gD n rs)) (he : ED F K te σ B (gD n rs)) : ETt F (tTest (tOp (rNeD K) (tCall (spNow K CP CD) [] E0 (tCons (tVar i) tNil)) te)) σ B false := et_is (et_cmp (K := K) (ed_op (ed_now (i := i) hi st) he (rd_neD G.sh G.sh))) (by
    show (!PyData.eqv (gD n rs) (gD n rs)) = false
    rw [eqv_refl _ G.1]
    rfl)
theorem et_many {te : TE} {m : Int} (T : TK P w K mg base c0 c1 c2 CP cR cU cN CD) (hi : σ[i]? = some (some (.ref d))) (st : StD K CP CD F B n rs bs es d) (hm : m = (bs.length : Nat)) (he : ED F K te σ B (.int m)) : ETt F (tTest (tOp (rNeD K) (tFld K (tVar i) "many") te)) σ B false := et_is (et_cmp (K := K) (ed_op (ed_many T hi st) he (rd_neD rfl rfl))) (by rw [eqv_int, hm]; simp)
theorem et_rep (hi : σ[i]? = some (some (.ref d))) (st : StD K CP CD F B n rs bs es d) : ETt F (tTest (tOp (rNeD K) (Mt.tMethS CD "report" (spRep K CP CD) (fun _ => E0) (tVar i) tNil) (tTup tNil))) σ B false := et_is (et_cmp (K := K) (ed_op (ed_rep (i := i) hi st) (ed_tup eds_nil) (rd_neD rfl rfl))) (by decide +kernel)
theorem sameB_self {b : List (List PyData)} {e : List (List PyData)} (G : SG n rs) : sameB n n rs rs b b e e = true := by
  unfold sameB
  rw [eqv_int, eqv_refl _ G.sm.1]
  simp
theorem et_same {d2 : Addr} (hi : σ[i]? = some (some (.ref d))) (hj : σ[j]? = some (some (.ref d2))) (s1 : StD K CP CD F B n rs bs es d) (s2 : StD K CP CD F B n rs bs es d2) (G : SG n rs) : ETt F (tTest (tOp rNotB (tCall (spSame K CP CD) [] E0 (tCons (tVar i) (tCons (tVar j) tNil))) (tC (.bl true)))) σ B false := et_is (et_cmp (K := K) (ed_op (ed_same hi hj s1 s2 G G) ed_bl rd_notB)) (by rw [sameB_self G]; decide)
theorem sg_sm {n : Nat} {rs : List PyData} (G : SG n rs) : Sm 60 (gD n rs) := Sm.le (sm_tup (n := 50) (scs sm_int (scs G.sm sce))) (by decide)
end
section
variable {F : Fm} {σ : L2.St} {B B0 H0 H : Hp} {L : List (Addr × HO)} {i j l : Nat} {n : Nat} {rs : List PyData} {bs es : List (List PyData)} {d : Addr} {CP CD : Addr} {te t1 t2 t3 ta tb : TE} {Z : PV} {D : Ends}
theorem wo_asgS (w : Ow F B0 H0 B H L) (h : EV (F.wL L w.nt) te σ B Z) (q : ∀ v B5 H5, Ow F B0 H0 B5 H5 L → Ex B B5 → Z v B5 → D.nx (σ.set i (some v)) H5) : tAsg te (gName i) D σ H := h B (Ex.refl B) H w.ok _ fun v B5 H5 s5 k5 p => q v B5 H5 (w.back s5 k5) s5.bb p
theorem wo_ifS {t : TT} {tu tw : L2.TS} {b : Bool} (w : Ow F B0 H0 B H L) (h : ETt (F.wL L w.nt) t σ B b) (h1 : b = true → ∀ B5 H5, Ow F B0 H0 B5 H5 L → Ex B B5 → tu D σ H5) (h2 : b = false → ∀ B5 H5, Ow F B0 H0 B5 H5 L → Ex B B5 → tw D σ H5) : tIfS t tu tw D σ H := wo_if w h h1 h2
theorem te_deskC {E : L2.St → XK} {tr : TA} {Q : List V → Hp → Prop} (w : Ow F B0 H0 B H L) (ha : EV (F.wL L w.nt) te σ B (InsP K CP (.int (n : Nat)) (.tuple rs))) (q : ∀ x B' H' L3', Ow F B0 H0 B' H' (L3' ++ L) → Ex B B' → DkD K CP CD n rs [] [] x L3' B' → tr σ H' fun xs H2 => Q (.ref x :: xs) H2) : tCons (tMakeS CD (spDin K CP CD) E (tCons te tNil)) tr σ H Q := by
  have h := te_desk (CD := CD) (E := E) (Q := fun x H1 => tr σ H1 fun xs H2 => Q (x :: xs) H2) w ha q
  exact h
theorem wo_desk3 {E1 E2 E3 : L2.St → XK} {tz : L2.TS} {n1 n2 n3 : Nat} {r1 r2 r3 : List PyData} (w : Ow F B0 H0 B H L) (h1 : ∀ F' : Fm, EV F' t1 σ B (InsP K CP (.int (n1 : Nat)) (.tuple r1))) (h2 : ∀ F' : Fm, EV F' t2 σ B (InsP K CP (.int (n2 : Nat)) (.tuple r2))) (h3 : ∀ F' : Fm, EV F' t3 σ B (InsP K CP (.int (n3 : Nat)) (.tuple r3)))
    (q : ∀ d1 d2 d3 B' H' L1 L2 L3, Ow F B0 H0 B' H' (L3 ++ (L2 ++ (L1 ++ L))) → Ex B B' → DkD K CP CD n1 r1 [] [] d1 L1 B' → DkD K CP CD n2 r2 [] [] d2 L2 B' → DkD K CP CD n3 r3 [] [] d3 L3 B' → tz D (((σ.set i (some (.ref d1))).set j (some (.ref d2))).set l (some (.ref d3))) H') :
    tSeq (tPar3 i j l (tCons (tMakeS CD (spDin K CP CD) E1 (tCons t1 tNil)) (tCons (tMakeS CD (spDin K CP CD) E2 (tCons t2 tNil)) (tCons (tMakeS CD (spDin K CP CD) E3 (tCons t3 tNil)) tNil)))) tz D σ H := by
  unfold tSeq tPar3
  exact te_deskC w (h1 _) fun d1 B1 H1 L1 w1 e1 k1 => te_deskC w1 ((h2 _).up e1) fun d2 B2 H2 L2 w2 e2 k2 => te_deskC w2 ((h3 _).up (e1.trans e2)) fun d3 B3 H3 L3 w3 e3 k3 => ⟨_, _, _, rfl, q d1 d2 d3 B3 H3 L1 L2 L3 w3 (e1.trans (e2.trans e3)) (k1.up (e2.trans e3)) (k2.up e3) k3⟩
theorem oq_rngU {ta : TA} {N : Nat} {tb tz : L2.TS} (ok : Ok F B H) (h : EVs F ta σ B (fun vs _ => ∃ n : Int, vs = [.int n] ∧ 0 ≤ n ∧ n ≤ (N : Nat))) (hN : N ≤ 1000000) (J : Nat → L2.St → Hp → Hp → Prop) (h0 : ∀ B1 H1, Step F.M B H B1 H1 → Ok F B1 H1 → J 0 σ B1 H1)
    (hs : ∀ Bb (i : Nat) σ' B1 H1, Ex B Bb → i < N → Ex Bb B1 → J i σ' B1 H1 → tb { D with nx := Nx Bb (J (i + 1)), ct := Nx Bb (J (i + 1)), bk := tz D } (σ'.set j (some (.int (i : Int)))) H1)
    (hd : ∀ u σ' B1 H1, u ≤ N → Ex B B1 → J u σ' B1 H1 → tz D σ' H1) : tSeq (tFor (iRng1 ta) (gName j) tb) tz D σ H := by
  refine h B (Ex.refl B) H ok _ fun vs B1 H1 s1 k1 ⟨n, e, n0, n1⟩ => ?_
  refine ⟨n, e, by omega, by omega, for_range (lo := 0) (n := n.toNat) (fun i => Nx B1 (J i)) ⟨B1, Ex.refl B1, h0 B1 H1 s1 k1⟩ (fun i σ' H' hi ⟨B2, e2, q⟩ => ?_) fun σ' H' ⟨B2, e2, q⟩ => hd n.toNat σ' B2 H' (by omega) (s1.bb.trans e2) q⟩
  show tb _ (σ'.set j (some (.int ((0 : Int) + (i : Int))))) H'
  rw [Int.zero_add]
  exact hs B1 i σ' B2 H' s1.bb (by omega) e2 q
theorem ev_ifU {tx : TE} (hx : EV F tx σ B (fun v _ => ∃ b, v = .bl b)) (h1 : EV F ta σ B Z) (h2 : EV F tb σ B Z) : EV F (tIf (tTest tx) ta tb) σ B Z := fun B1 e1 H j Q q => hx B1 e1 H j _ fun v B2 H2 s2 j2 ⟨b, hb⟩ => ⟨b, hb, by
  cases b with
  | true =>
    show ta σ H2 Q
    exact h1 B2 (e1.trans s2.bb) H2 j2 Q fun v B3 H3 s3 j3 g => q v B3 H3 (s2.trans s3) j3 g
  | false =>
    show tb σ H2 Q
    exact h2 B2 (e1.trans s2.bb) H2 j2 Q fun v B3 H3 s3 j3 g => q v B3 H3 (s2.trans s3) j3 g⟩
theorem tt_refd {QT : Bool → Hp → Prop} {L3 : List (Addr × HO)} {vg : V} (w : Ow F B0 H0 B H (L3 ++ L)) (hd : DkD K CP CD n rs bs es d L3 B) (G : SG n rs) (l9 : bs.length ≤ 900) (le : es.length ≤ 1000) (hi : σ[i]? = some (some (.ref d))) (hj : σ[j]? = some (some vg)) (hg : Dd K B vg (.tuple [.int (n : Nat), .tuple rs]))
    (q : ∀ B' H' L3', Ow F B0 H0 B' H' (L3' ++ L) → Ex B B' → DkD K CP CD n rs bs es d L3' B' → QT false H') :
    tNot (tB (tCall (spRef K CP CD) [] E0 (tCons (tVar i) (tCons (tVar j) tNil)))) σ H QT :=
  ⟨.ref d, hi, vg, hj, ⟨F, B0, H0, B, L3, L, n, rs, bs, es, d⟩, vg, rfl, ⟨w, hd, by show bs.length ≤ 1000; omega, le⟩, l9, G, hg, fun B' H' L3' w' e' d' => ⟨true, rfl, q B' H' L3' w' e' d'⟩⟩
theorem wq_refd {L3 : List (Addr × HO)} {vg : V} {u : TT} {tu tz : L2.TS} (w : Ow F B0 H0 B H (L3 ++ L)) (hd : DkD K CP CD n rs bs es d L3 B) (G : SG n rs) (l9 : bs.length ≤ 900) (le : es.length ≤ 1000) (hi : σ[i]? = some (some (.ref d))) (hj : σ[j]? = some (some vg)) (hg : Dd K B vg (.tuple [.int (n : Nat), .tuple rs]))
    (q : ∀ B' H' L3', Ow F B0 H0 B' H' (L3' ++ L) → Ex B B' → DkD K CP CD n rs bs es d L3' B' → u σ H' fun b H1 => if b = true then tu { D with nx := tz D } σ H1 else tz D σ H1) :
    tSeq (tIfS (tOr (tNot (tB (tCall (spRef K CP CD) [] E0 (tCons (tVar i) (tCons (tVar j) tNil))))) u) tu tNext) tz D σ H := by
  have h := tt_refd (QT := fun c H1 => if c = true then (fun b H1 => if b = true then tu { D with nx := tz D } σ H1 else tz D σ H1) true H1 else u σ H1 fun b H1 => if b = true then tu { D with nx := tz D } σ H1 else tz D σ H1) w hd G l9 le hi hj hg fun B' H' L3' w' e' d' => q B' H' L3' w' e' d'
  exact h
theorem tt_wb {QT : Bool → Hp → Prop} {p : Addr} {vg : V} (w : Ow (Fm.box p) B0 H0 B H L) (G : SG n rs) (hi : σ[i]? = some (some (.ref p))) (hj : σ[j]? = some (some vg)) (hg : Dd K B vg (.tuple [.int (n : Nat), .tuple rs]))
    (q : ∀ B' H', Ow (Fm.box p) B0 H0 B' H' L → Ex B B' → QT false H') :
    tNot (tB (tCall (spWb K) [] E0 (tCons (tVar i) (tCons (tVar j) tNil)))) σ H QT :=
  ⟨.ref p, hi, vg, hj, p, B0, H0, B, L, vg, n, rs, rfl, w, G, hg, fun B' H' w' e' => ⟨true, rfl, q B' H' w' e'⟩⟩
end
def R1 : List PyData := [.tuple [.int 0, .str "left", .str "q"]]
theorem gr_sg {n : Nat} {rs : List PyData} (h1 : 1 ≤ n) (h8 : n ≤ 8) (hne : rs ≠ []) (G : GR n rs) : SG n rs := ⟨h1, h8, List.length_pos_iff.mpr hne, by have := G.len; omega, G.ok, G.bk⟩
theorem sg1 : SG 1 R1 := ⟨Nat.le_refl 1, by decide, by decide, by decide, fun r hr => by
  rw [List.mem_singleton.mp hr]
  exact rg_word (n := 1) (by decide) (by decide) (by decide) (by decide +kernel) (by decide +kernel) (by decide +kernel), by
  have e : edges R1 = [] := by
    unfold edges R1
    rw [List.filter_cons, if_neg (by rw [word_one (n := 1) (by decide +kernel)]; decide)]
    rfl
  rw [e]
  decide +kernel⟩
theorem same_due {n : Nat} {r : List PyData} {bs : List (List PyData)} : sameB n 1 r R1 bs [] [] [] = (PyData.eqv (gD n r) (gD 1 R1) && PyData.eqv (.int (bs.length : Nat)) (.int 0)) := by
  unfold sameB gD
  rw [show PyData.eqv (.tuple [.int (n : Nat), .tuple r]) (.tuple [.int ((1 : Nat) : Int), .tuple R1]) = (PyData.eqv (.int (n : Nat)) (.int ((1 : Nat) : Int)) && PyData.eqv (.tuple r) (.tuple R1)) by
    rw [show PyData.eqv (.tuple [.int (n : Nat), .tuple r]) (.tuple [.int ((1 : Nat) : Int), .tuple R1]) = (PyData.eqv (.int (n : Nat)) (.int ((1 : Nat) : Int)) && (PyData.eqv (.tuple r) (.tuple R1) && true)) by simp [PyData.eqv, PyData.eqvAll], Bool.and_true]]
  congr 1
  rw [eqv_int]
  by_cases h : bs.length = 0
  · rw [decide_eq_true (by simpa using h)]
    simp [h]
  · rw [decide_eq_false (by simpa using h)]
    simp
    intro z
    exact h (by rw [z]; rfl)


end
end K50

namespace K50
open PySem PySem.Spec PyProof.Rows L2 Evl Ex Dx StX
open PySem.PyData (strOk)
section
variable {P : Program} {w : World} {K : PySem.W.Frag} {mg : Str → Option Value} {base : Heap} {f : Addr} {fd : FuncData}


/-! ### the law -/
def spLaw (K : PySem.W.Frag) : Sp := fun vs H Q _ => ∃ (a : Addr) (ns : List Int), vs = [.ref a] ∧ SqL K H a (ns.map V.int) ∧ ns.length ≤ 63 ∧ ∀ H', Q (.bl true) H'
theorem nxE_nil (o : Oc) : nxE [] o = [] := by cases o <;> rfl
theorem nxB_len {rs : List PyData} {bs : List (List PyData)} (o : Oc) : (nxB rs bs o).length ≤ bs.length + 1 := by
  cases o with
  | kept new =>
    show (bs ++ [rs]).length ≤ _
    rw [List.length_append]
    exact Nat.le_refl _
  | num v => exact Nat.le_succ _
  | rule v => exact Nat.le_succ _
  | alone => exact Nat.le_succ _
theorem oc_sm2 {n m : Nat} {rs : List PyData} {ed : Ed} (G : SG n rs) (hL : LEd n m ed) : Sm 60 (ocD n (edO n rs ed)) := by
  have hr : ∀ rl, RG n rl → Sm 50 rl := fun rl h => (smD_sm 1 rl h.2).le (by decide)
  cases ho : edO n rs ed with
  | kept new =>
    have G2 := edO_sg G hL ho
    exact Sm.le (sm_tup (n := 52) (scs (sm_str (by decide +kernel)) (scs (Sm.le (sm_tup (n := 50) (scs sm_int (scs G2.sm sce))) (by decide)) sce))) (by decide)
  | num v =>
    refine (oc_sm ?_).1
    cases ed with
    | put pl rl =>
      obtain ⟨i, rfl, _⟩ := hL
      have h : putO n rs (.int i) rl = .num v := ho
      unfold putO editO at h
      split at h
      · cases h
        exact sm_int
      · split at h
        · cases h
        · split at h <;> cases h
    | take pl =>
      obtain ⟨i, rfl, _⟩ := hL
      have h : takeO rs (.int i) = .num v := ho
      unfold takeO at h
      split at h
      · cases h
        exact sm_int
      · split at h <;> cases h
    | turn pl rl =>
      obtain ⟨i, rfl, _⟩ := hL
      have h : turnO n rs (.int i) rl = .num v := ho
      unfold turnO editO at h
      split at h
      · cases h
        exact sm_int
      · split at h
        · cases h
        · split at h <;> cases h
  | rule v =>
    refine (oc_sm (hr v ?_)).2
    cases ed with
    | put pl rl =>
      obtain ⟨i, rfl, _, _, hrl⟩ := hL
      have h : putO n rs (.int i) rl = .rule v := ho
      unfold putO editO at h
      split at h
      · cases h
      · split at h
        · cases h
          exact hrl
        · split at h <;> cases h
          exact hrl
    | take pl =>
      have h : takeO rs pl = .rule v := ho
      unfold takeO at h
      split at h
      · cases h
      · split at h <;> cases h
    | turn pl rl =>
      obtain ⟨i, rfl, _, _, hrl⟩ := hL
      have h : turnO n rs (.int i) rl = .rule v := ho
      unfold turnO editO at h
      split at h
      · cases h
      · split at h
        · cases h
          exact hrl
        · split at h <;> cases h
          exact hrl
  | alone => exact Sm.le (sm_tup (n := 50) (scs (sm_str (by decide +kernel)) (scs (sm_str (by decide +kernel)) sce))) (by decide)
theorem perm_ab {α : Type} (A B C : List α) : (A ++ (B ++ C)).Perm (B ++ (A ++ C)) := by
  rw [← List.append_assoc, ← List.append_assoc]
  exact List.Perm.append_right C List.perm_append_comm
variable {c0 c1 c2 CP cR cU cN CD : Addr} {fI fD fE : Addr} {fdI fdD fdE : FuncData}

abbrev s_law : Stmt := topS 123
abbrev N_law : List Str := ["script", "state", "box", "made", "desk", "twin", "other", "deeds", "turn", "edit", "due", "old", "before"]
theorem sc_law : FnScope N_law ["script"] (defScope s_law) := ⟨rfl, rfl, rfl, by decide +kernel, rfl, by decide +kernel, by decide +kernel⟩
theorem ok_law (F : Fun K "law" "law" s_law f fd) (T : TK P w K mg base c0 c1 c2 CP cR cU cN CD) (M_Desk : Mk K CD fD) (G_Desk : FnOk P w K mg base CX0 1 fD fdD ["self", "pairs"] (spDin K CP CD)) (B_Desk : L2.Binds K fdD ["self", "pairs"] []) (M_Pairs : Mk K CP fI) (G_Pairs : FnOk P w K mg base (L2.CX P w) 5 fI fdI ["self", "kinds", "rules"] (spPairs K CP c0 c1 c2)) (B_Pairs : L2.Binds K fdI ["self", "kinds", "rules"] []) (G_eq : FnOk P w K mg base CX0 1 fE fdE ["self", "other"] (spEq K CP)) (h_eq : PySem.W.findIn K (.ref CP) "__eq__" = some (some (.ref fE))) (hf_eq : PySem.W.isFn K (.ref fE) = true) (B_eq : L2.Binds K fdE ["self", "other"] []) (C_law_grammar : Callee P w K mg base "_law_grammar" 3 ["script", "most"] (spGram K)) (C_law_box : Callee P w K mg base "_law_box" 1 ["script", "k"] (spBoxN K)) (C_law_made : Callee P w K mg base "_law_made" 7 ["grammar"] (spMade K CP)) (C_law_take : Callee P w K mg base "_law_take" 1 ["box", "many"] (spTake K)) (C_same_state : Callee P w K mg base "same_state" 3 ["one", "other"] (spSame K CP CD)) (M_report : Mt.MethX P w K mg base CX0 CD "report" 1 ["self"] (spRep K CP CD)) (C_law_edit : Callee P w K mg base "_law_edit" 4 ["box", "grammar"] (spEdt K)) (C_law_edited : Callee P w K mg base "_law_edited" 2 ["grammar", "edit"] (spEdd K)) (C_law_now : Callee P w K mg base "_law_now" 1 ["desk"] (spNow K CP CD)) (C_law_deed : Callee P w K mg base "_law_deed" 10 ["desk", "edit"] (spDeed K CP CD)) (C_law_are_refused : Callee P w K mg base "_law_are_refused" 11 ["desk", "grammar"] (spRef K CP CD)) (C_law_is_walked_back : Callee P w K mg base "_law_is_walked_back" 10 ["box", "grammar"] (spWb K)) (C_lengths : Callee P w K mg base "lengths" 5 ["pairs"] (spLen K CP)) (C_law_is_due : Callee P w K mg base "_law_is_due" 1 ["told", "due"] (spF K (fun ds => ∃ a b, ds = [.bool a, .bool b]) fIs)) : FnOk P w K mg base CX0 12 f fd ["script"] (spLaw K) := by
  refine F.ok sc_law (fun vs H Q E h => ?_) (fun cdv A outer s H vs Q E hr h => ?_)
  · obtain ⟨a, ns, rfl, _⟩ := h
    rfl
  · obtain ⟨a, ns, rfl, hS, hl, q⟩ := h
    have hu64 : (A.deeper (envOfC "law" (defScope s_law) s.heap.objs.size f cdv)).units + 64 < cLine := hr.units
    refine ⟨_, (pss_cons (ps_set (i := 1) sc_law.nd rfl (Or.inl rfl) (pe_callC C_law_grammar (hr.mono (by decide)) rfl pass0 (pa_cons (pv 0) (pa_cons pe_int pa_nil))))
      (pss_cons (ps_set (i := 2) sc_law.nd rfl (Or.inl rfl) (pe_callC C_law_box (hr.mono (by decide)) rfl pass0 (pa_cons (pv 0) (pa_cons pe_int pa_nil))))
      (pss_cons (ps_set (i := 3) sc_law.nd rfl (Or.inl rfl) (pe_callC C_law_made (hr.mono (by decide)) rfl pass0 (pa_cons (pv 1) pa_nil)))
      (pss_cons (ps_par3 (i := 4) (j := 5) (l := 6) (by rfl) sc_law.nd rfl rfl rfl (by decide) (by decide) (by decide) rfl rfl rfl (pa_cons (pe_makeS M_Desk G_Desk (hr.mono (by decide)) rfl T.g_Desk B_Desk pass0S (pa_cons (pv 3) pa_nil)) (pa_cons (pe_makeS M_Desk G_Desk (hr.mono (by decide)) rfl T.g_Desk B_Desk pass0S (pa_cons (pv 3) pa_nil)) (pa_cons (pe_makeS M_Desk G_Desk (hr.mono (by decide)) rfl T.g_Desk B_Desk pass0S (pa_cons (pe_makeS M_Pairs G_Pairs (hr.mono (by decide)) rfl T.g_Pairs B_Pairs (fun σ => passAt takes0 σ) (pa_cons pe_int (pa_cons (pe_tup (pa_cons (pe_tup (pa_cons pe_int (pa_cons pe_str (pa_cons pe_str pa_nil)))) pa_nil)) pa_nil))) pa_nil)) pa_nil))) (by rfl))
      (pss_cons (ps_set (i := 7) sc_law.nd rfl (Or.inl rfl) pe_int)
      (pss_cons (ps_if (PW.pt (pw_or (pt_cmpR op_notBl (pe_callC C_same_state (hr.mono (by decide)) rfl pass0 (pa_cons (pv 4) (pa_cons (pv 5) pa_nil))) pe_bl (nomark _)) (pw_or (pt_cmpR (op_neDK K hu64) (pe_fldK K (pv 4)) (pe_tup pa_nil) (nomark _)) (pw_or (pt_cmpR (op_neDK K hu64) (pe_fldK K (pv 4)) pe_int (nomark _)) (pw_or (pt_cmpR (op_neDK K hu64) (Mt.pe_methX0 M_report T.cD (hr.mono (by decide)) pass0S (pv 4)) (pe_tup pa_nil) (nomark _)) (pw_or (pt_cmpR (Mt.op_idEq (C := CD) (Nat.lt_of_le_of_lt (Nat.add_le_add_left (by decide) _) hu64) T.eqD T.moD) (pv 4) (pv 5) (nomark _)) (pw_or1 (pt_not (pt_cmpR (Mt.op_idEq (C := CD) (Nat.lt_of_le_of_lt (Nat.add_le_add_left (by decide) _) hu64) T.eqD T.moD) (pv 4) (pv 4) (nomark _)))))))))) (pss_one (ps_ret pe_bl)) pss_nil)
      (pss_cons (ps_for PassesOwn.never rfl (pi_range1 rfl T.m_range (pa_cons (pe_ifExp (pt_cmpR op_gt (pe_callC C_law_take (hr.mono (by decide)) rfl pass0 (pa_cons (pv 2) (pa_cons pe_int pa_nil))) pe_int (nomark _)) (pe_op (op_addK K) pe_int (pe_callC C_law_take (hr.mono (by decide)) rfl pass0 (pa_cons (pv 2) (pa_cons pe_int pa_nil)))) pe_int) pa_nil)) (pg_name (i := 8) sc_law.nd rfl (Or.inl rfl)) (pss_cons (ps_set (i := 9) sc_law.nd rfl (Or.inl rfl) (pe_callC C_law_edit (hr.mono (by decide)) rfl pass0 (pa_cons (pv 2) (pa_cons (pv 1) pa_nil))))
      (pss_cons (ps_set (i := 10) sc_law.nd rfl (Or.inl rfl) (pe_callC C_law_edited (hr.mono (by decide)) rfl pass0 (pa_cons (pv 1) (pa_cons (pv 9) pa_nil))))
      (pss_cons (ps_set (i := 11) sc_law.nd rfl (Or.inl rfl) (pe_fldK K (pv 4)))
      (pss_cons (ps_set (i := 12) sc_law.nd rfl (Or.inl rfl) (pe_callC C_law_now (hr.mono (by decide)) rfl pass0 (pa_cons (pv 4) pa_nil)))
      (pss_cons (ps_if (PW.pt (pw_or (pt_cmpR (op_neDK K hu64) (pe_callC C_law_deed (hr.mono (by decide)) rfl pass0 (pa_cons (pv 4) (pa_cons (pv 9) pa_nil))) (pv 10) (nomark _)) (pw_or (pt_cmpR (op_neDK K hu64) (pe_callC C_law_deed (hr.mono (by decide)) rfl pass0 (pa_cons (pv 5) (pa_cons (pv 9) pa_nil))) (pv 10) (nomark _)) (pw_or1 (pt_cmpR (op_neDK K hu64) (pe_tup (pa_cons (pe_fldK K (pv 11)) (pa_cons (pe_fldK K (pv 11)) pa_nil))) (pv 12) (nomark _)))))) (pss_one (ps_ret pe_bl)) pss_nil)
      (Evl.pss_cut (ps_if (pt_cmpR (op_eqDK K hu64) (pe_ix (ix_seqK K) (pv 10) pe_int (fun _ _ => rfl)) pe_str (nomark _)) (pss_cons (ps_set (i := 1) sc_law.nd rfl (Or.inl rfl) (pe_ix (ix_seqK K) (pv 10) pe_int (fun _ _ => rfl)))
      (pss_one (ps_set (i := 7) sc_law.nd rfl (Or.inl rfl) (pe_op (op_addK K) (pv 7) pe_int)))) pss_nil)
      (pss_one (ps_if (PW.pt (pw_or (pt_cmpR (op_neDK K hu64) (pe_callC C_law_now (hr.mono (by decide)) rfl pass0 (pa_cons (pv 4) pa_nil)) (pv 1) (nomark _)) (pw_or (pt_cmpR (op_neDK K hu64) (pe_fldK K (pv 4)) (pv 7) (nomark _)) (pw_or (pt_cmpR (op_neDK K hu64) (Mt.pe_methX0 M_report T.cD (hr.mono (by decide)) pass0S (pv 4)) (pe_tup pa_nil) (nomark _)) (pw_or1 (pt_cmpR op_notBl (pe_callC C_same_state (hr.mono (by decide)) rfl pass0 (pa_cons (pv 4) (pa_cons (pv 5) pa_nil))) pe_bl (nomark _))))))) (pss_one (ps_ret pe_bl)) pss_nil)))))))))
      (pss_cons (ps_if (PW.pt (pw_or (pt_not (pt_val (pe_callC C_law_are_refused (hr.mono (by decide)) rfl pass0 (pa_cons (pv 4) (pa_cons (pv 1) pa_nil))))) (pw_or (pt_cmpR (op_neDK K hu64) (pe_callC C_law_now (hr.mono (by decide)) rfl pass0 (pa_cons (pv 4) pa_nil)) (pv 1) (nomark _)) (pw_or1 (pt_cmpR (op_neDK K hu64) (pe_fldK K (pv 4)) (pv 7) (nomark _)))))) (pss_one (ps_ret pe_bl)) pss_nil)
      (pss_cons (ps_if (PW.pt (pw_or (pt_cmpR (Mt.op_ownNe G_eq (hr.mono (by decide)) h_eq hf_eq B_eq T.neP T.mo pass0) (pe_fldK K (pv 4)) (pe_callC C_law_made (hr.mono (by decide)) rfl pass0 (pa_cons (pv 1) pa_nil)) (nomark _)) (pw_or (pt_cmpR (op_neDK K hu64) (pe_callC C_lengths (hr.mono (by decide)) rfl pass0 (pa_cons (pe_fldK K (pv 4)) pa_nil)) (pe_callC C_lengths (hr.mono (by decide)) rfl pass0 (pa_cons (pe_callC C_law_made (hr.mono (by decide)) rfl pass0 (pa_cons (pv 1) pa_nil)) pa_nil)) (nomark _)) (pw_or1 (pt_not (pt_val (pe_callC C_law_is_walked_back (hr.mono (by decide)) rfl pass0 (pa_cons (pv 2) (pa_cons (pv 1) pa_nil))))))))) (pss_one (ps_ret pe_bl)) pss_nil)
      (pss_cons (ps_if (PW.pt (pw_or (pt_cmpR (op_neDK K hu64) (pe_callC C_law_now (hr.mono (by decide)) rfl pass0 (pa_cons (pv 6) pa_nil)) (pe_tup (pa_cons pe_int (pa_cons (pe_tup (pa_cons (pe_tup (pa_cons pe_int (pa_cons pe_str (pa_cons pe_str pa_nil)))) pa_nil)) pa_nil))) (nomark _)) (pw_or1 (pt_cmpR (op_neDK K hu64) (pe_fldK K (pv 6)) pe_int (nomark _))))) (pss_one (ps_ret pe_bl)) pss_nil)
      (pss_one (ps_ret (pe_callC C_law_is_due (hr.mono (by decide)) rfl pass0 (pa_cons (pe_callC C_same_state (hr.mono (by decide)) rfl pass0 (pa_cons (pv 4) (pa_cons (pv 6) pa_nil))) (pa_cons (pe_and (pe_cmpR (op_eqDK K hu64) (pv 1) (pe_tup (pa_cons pe_int (pa_cons (pe_tup (pa_cons (pe_tup (pa_cons pe_int (pa_cons pe_str (pa_cons pe_str pa_nil)))) pa_nil)) pa_nil))) (nomark _)) (pe_one (pe_cmpR (op_eqDK K hu64) (pv 7) pe_int (nomark _)))) pa_nil))))))))))))))), ?_⟩
    have hS0 := hS
    refine ⟨.ref a, rfl, a, ns, H, rfl, Ex.refl H, hS, hl, fun vg B1 H1 n rs s1 hg n1 n8 hne G0 => ?_⟩
    have G : SG n rs := gr_sg n1 n8 hne G0
    refine ⟨.ref a, rfl, a, 4, ns, B1, rfl, s1.bh, ex_l s1.bb hS, hl, by decide, by decide, fun p B2 H2 hp s2 k2 => ?_⟩
    dsimp only [gName]
    have w2 := ow_nil k2
    have hg2 := hg.up s2.bb
    refine wo_asg (P := InsP K CP (.int (n : Nat)) (.tuple rs)) w2 (ev_mk (i := 1) rfl hg2 G) fun vm B3 H3 w3 e3 hm => ?_
    have hg3 := hg2.up e3
    have r1E : ∀ {F : Fm} {σ : _root_.L2.St} {B5 : Hp}, ED F K (tTup (tCons (tTup (tCons (tC (.int 0)) (tCons (tC (.str "left")) (tCons (tC (.str "q")) tNil)))) tNil)) σ B5 (.tuple R1) := ed_tup (eds_cons (ed_tup (eds_cons ed_int (eds_cons ed_str (eds_cons ed_str eds_nil)))) eds_nil)
    have g1E : ∀ {F : Fm} {σ : _root_.L2.St} {B5 : Hp}, ED F K (tTup (tCons (tC (.int 1)) (tCons (tTup (tCons (tTup (tCons (tC (.int 0)) (tCons (tC (.str "left")) (tCons (tC (.str "q")) tNil)))) tNil)) tNil))) σ B5 (gD 1 R1) := ed_tup (eds_cons ed_int (eds_cons r1E eds_nil))
    refine wo_desk3 (n1 := n) (n2 := n) (n3 := 1) (r1 := rs) (r2 := rs) (r3 := R1) w3 (fun F' => Dx.ev_var (i := 3) rfl upc_ins hm) (fun F' => Dx.ev_var (i := 3) rfl upc_ins hm) (fun F' => ev_make (dk := .int ((1 : Nat) : Int)) (dr := .tuple R1) (eds_cons ed_int (eds_cons r1E eds_nil)) sg1.due) fun d1 d2 d3 B4 H4 L1 L2 L3 w4 e4 k1 k2' k3 => ?_
    have hg4 := hg3.up e4
    refine wo_asg (P := DD K (.int 0)) w4 (ed_int (i := 0)) fun v7 B5 H5 w5 e5 h7 => ?_
    obtain rfl := dd_int h7
    have k1 := k1.up e5
    have k2' := k2'.up e5
    have k3 := k3.up e5
    have hg5 := hg4.up e5
    have ne12 : d1 ≠ d2 := by
      obtain ⟨dx, vp, vw, ba, ea, vk, vr, xs, ys, g1, _⟩ := k1.ex
      obtain ⟨dx', vp', vw', ba', ea', vk', vr', xs', ys', g2, _⟩ := k2'.ex
      have w6 := ow_tails w5
      rw [g2] at w6
      exact Ow.ne w6 (p := (d1, .ins CD dx (dkF vp vw 0 ba ea vk vr))) (List.mem_cons_of_mem _ (List.mem_cons_of_mem _ (by rw [g1]; exact List.mem_cons_self)))
    have m1 : ∀ {A B C : List (Addr × HO)}, ∀ x ∈ A, x ∈ A ++ (B ++ (C ++ [])) := fun x hx => List.mem_append_left _ hx
    have m2 : ∀ {A B C : List (Addr × HO)}, ∀ x ∈ B, x ∈ A ++ (B ++ (C ++ [])) := fun x hx => List.mem_append_right _ (List.mem_append_left _ hx)
    have m3 : ∀ {A B C : List (Addr × HO)}, ∀ x ∈ C, x ∈ A ++ (B ++ (C ++ [])) := fun x hx => List.mem_append_right _ (List.mem_append_right _ (List.mem_append_left _ hx))
    have s1' := DkM.st (F := Fm.box p) (hn := w5.nt) k1 m3
    have s2' := DkM.st (F := Fm.box p) (hn := w5.nt) k2' m2
    refine wo_when (b := false) w5 (PW_or2 (et_same (i := 4) (j := 5) rfl rfl s1' s2' G) (PW_or2 (et_is (et_cmp (K := K) (ed_op (ed_wat T (i := 4) rfl s1') (ed_tup eds_nil) (rd_neD rfl rfl))) (by decide +kernel)) (PW_or2 (et_many T (i := 4) rfl s1' rfl ed_int) (PW_or2 (et_rep (i := 4) rfl s1') (PW_or2 (et_is (et_id (i := 4) (j := 5) rfl rfl s1' s2') (decide_eq_false ne12)) (et_is (et_not (et_id (i := 4) (j := 4) rfl rfl s1' s1')) (by rw [decide_eq_true rfl]; rfl))))))) (fun h => nomatch h) (fun _ B6 H6 w6 e6 => ?_)
    have w6 : Ow (Fm.box p) B2 H2 B6 H6 (L1 ++ (L2 ++ (L3 ++ []))) := w6.perm (by
      rw [List.append_nil, List.append_nil]
      exact (perm_ab L1 L2 L3).trans ((List.Perm.append_left L2 List.perm_append_comm).trans ((perm_ab L2 L3 L1)))) 
    let J : Nat → _root_.L2.St → Hp → Hp → Prop := fun u σ' B' H' => ∃ o8 o9 o10 o11 o12 v1 cur bs L1 L2 L3, σ' = [some (.ref a), some v1, some (.ref p), some vm, some (.ref d1), some (.ref d2), some (.ref d3), some (.int (bs.length : Nat)), o8, o9, o10, o11, o12] ∧ Ow (Fm.box p) B2 H2 B' H' (L1 ++ (L2 ++ (L3 ++ []))) ∧ DkD K CP CD n cur bs [] d1 L1 B' ∧ DkD K CP CD n cur bs [] d2 L2 B' ∧ DkD K CP CD 1 R1 [] [] d3 L3 B' ∧ Dd K B' v1 (gD n cur) ∧ SG n cur ∧ bs.length ≤ u
    refine oq_rngU (F := Fm.box p) (N := 60) (j := 8) w6.k ?_ (by decide) J (fun B7 H7 s7 k7 => ⟨_, _, _, _, _, vg, rs, [], L1, L2, L3, rfl, w6.pass s7 k7, (k1.up e6).up s7.bb, (k2'.up e6).up s7.bb, (k3.up e6).up s7.bb, (hg5.up e6).up s7.bb, G, Nat.le_refl _⟩) (fun Bb u σ' B7 H7 ec hu e7 hj => ?_) (fun u σ' B7 H7 hu e7 hj => ?_)
    · -- how many turns
      have tk : ∀ {σ : _root_.L2.St} {B5 : Hp} (m : Int), 0 < m → m ≤ 100 → σ[2]? = some (some (.ref p)) → EV (Fm.box p) (tCall (spTake K) [] E0 (tCons (tVar 2) (tCons (tC (.int m)) tNil))) σ B5 (fun v B => ∃ t : Int, Dd K B v (.int t) ∧ 0 ≤ t ∧ t < m) := fun m h0 h1 h2 => evp_take (K := K) (i := 2) h2 (ed_int (i := m)) h0 (by omega)
      have ub : ∀ m : Int, Upc (fun v B => ∃ t : Int, Dd K B v (.int t) ∧ 0 ≤ t ∧ t < m) := fun m _ _ _ e ⟨t, h, r⟩ => ⟨t, h.up e, r⟩
      have hv : EV (Fm.box p) (tIf (tTest (tOp (rI0 fun i j => .bl (decide (j < i))) (tCall (spTake K) [] E0 (tCons (tVar 2) (tCons (tC (.int 6)) tNil))) (tC (.int 0)))) (tOp (rAddA K) (tC (.int 5)) (tCall (spTake K) [] E0 (tCons (tVar 2) (tCons (tC (.int 12)) tNil)))) (tC (.int 60))) [some (.ref a), some vg, some (.ref p), some vm, some (.ref d1), some (.ref d2), some (.ref d3), some (.int 0), none, none, none, none, none] B6 (fun v _ => ∃ m : Int, v = .int m ∧ 0 ≤ m ∧ m ≤ 60) := by
        refine ev_ifU (ev_op (P := fun v B => ∃ t : Int, Dd K B v (.int t) ∧ 0 ≤ t ∧ t < 6) (P' := DD K (.int 0)) (tk 6 (by decide) (by decide) rfl) ed_int (ub 6) fun B8 _ H8 u v j8 ⟨t, hu, _⟩ hv Q q => rd_gt (F := Fm.box p) (K := K) (B := B8) (i := t) (j := 0) B8 (Ex.refl B8) H8 u v j8 hu hv Q fun w B' H' s jj gw => q w B' H' s jj ⟨_, dd_bl gw⟩) ?_ ?_
        · exact ev_op (P := DD K (.int 5)) (P' := fun v B => ∃ t : Int, Dd K B v (.int t) ∧ 0 ≤ t ∧ t < 12) ed_int (tk 12 (by decide) (by decide) rfl) upc_dd fun B8 _ H8 u v j8 hu ⟨t, hv, t0, t1⟩ Q q => rd_add (F := Fm.box p) (K := K) (B := B8) (i := 5) (j := t) B8 (Ex.refl B8) H8 u v j8 hu hv Q fun w B' H' s jj gw => q w B' H' s jj ⟨5 + t, dd_int gw, by omega, by omega⟩
        · exact (ed_int (K := K) (i := 60)).imp fun v _ _ g => ⟨60, dd_int g, by decide, by decide⟩
      exact fun B7 e7 H7 j7 Q7 q7 => hv B7 e7 H7 j7 _ fun v B8 H8 s8 j8 ⟨m, h, m0, m1⟩ => q7 _ B8 H8 s8 j8 ⟨m, by rw [h], m0, m1⟩
    · -- a turn
      obtain ⟨o8, o9, o10, o11, o12, v1, cur, bs, L1, L2, L3, rfl, w7, k1, k2', k3, hv1, G7, hbl⟩ := hj
      refine wo_asg (P := fun v B => ∃ ed, Dd K B v (edD ed) ∧ LEd n cur.length ed) w7 (Ow.wl w7 fun B8 e8 H8 j8 Q8 q8 => ⟨.ref p, rfl, v1, rfl, p, v1, B8, n, cur, rfl, j8, hv1.up e8, G7, fun v' B' H' ed s k g hL => q8 v' B' H' s k ⟨ed, g, hL⟩⟩) fun ve B8 H8 w8 e8 ⟨ed, hve, hL⟩ => ?_
      have l12 := G7.l12
      refine wo_asg (P := DD K (ocD n (edO n cur ed))) w8 (ed_edited (ed_var (i := 1) rfl (hv1.up e8)) (ed_var (i := 9) rfl hve) G7 hL (by omega)) fun vdue B9 H9 w9 e9 hdue => ?_
      have e79 := e8.trans e9
      refine wo_asg (P := InsP K CP (.int (n : Nat)) (.tuple cur)) w9 (ev_prs T (i := 4) rfl (DkM.st (k1.up e79) m1)) fun vold B10 H10 w10 e10 hold => ?_
      have e710 := e79.trans e10
      refine wo_asg (P := DD K (gD n cur)) w10 (ed_now (i := 4) rfl (DkM.st (k1.up e710) m1)) fun vbef B11 H11 w11 e11 hbef => ?_
      have e711 := e710.trans e11
      have smo := oc_sm2 G7 hL
      have e911 := e10.trans e11
      -- the deed, twice
      refine tt_deed (ed := ed) w11 (k1.up e711) G7 (by omega) (Nat.zero_le _) rfl (ed_var (i := 9) rfl (hve.up (e9.trans e911))) (fun B' H' L3' w' e' => ed_var (i := 10) rfl (hdue.up (e911.trans e'))) smo fun B12 H12 L1b w12 e12 k1b => ?_
      have e712 := e711.trans e12
      have e912 := e911.trans e12
      have w12 : Ow (Fm.box p) B2 H2 B12 H12 (L2 ++ (L1b ++ (L3 ++ []))) := w12.perm (perm_ab L2 L1b (L3 ++ []))
      refine tt_deed (ed := ed) w12 (k2'.up e712) G7 (by omega) (Nat.zero_le _) rfl (ed_var (i := 9) rfl (hve.up (e9.trans e912))) (fun B' H' L3' w' e' => ed_var (i := 10) rfl (hdue.up (e912.trans e'))) smo fun B13 H13 L2b w13 e13 k2b => ?_
      have e713 := e712.trans e13
      have e913 := e912.trans e13
      have e1013 := (e11.trans e12).trans e13
      have w13 : Ow (Fm.box p) B2 H2 B13 H13 (L1b ++ (L2b ++ (L3 ++ []))) := w13.perm (perm_ab L1b L2b (L3 ++ []))
      have k1b := k1b.up e13
      have hold13 := upc_ins _ _ _ e1013 hold
      have hbef13 := hbef.up (e12.trans e13)
      have smc := sg_sm G7
      refine (et_is (et_cmp (K := K) (F := (Fm.box p).wL (L1b ++ (L2b ++ (L3 ++ []))) w13.nt) (ed_op (B := B13) (x := gD n cur) (ed_tup (eds_cons (ev_fk T.toTP (Dx.ev_var (i := 11) rfl upc_ins hold13)) (eds_cons (ev_fr T.toTP (Dx.ev_var (i := 11) rfl upc_ins hold13)) eds_nil))) (ed_var (i := 12) rfl hbef13) (rd_neD smc.sh smc.sh))) (b' := false) (by
        show (!PyData.eqv (gD n cur) (gD n cur)) = false
        rw [eqv_refl _ smc.1]
        rfl)) B13 (Ex.refl B13) H13 w13.ok _ fun B14 H14 s14 j14 => ?_
      have w14 := w13.back s14 j14
      have e14 := s14.bb
      have e714 := e713.trans e14
      have e914 := e913.trans e14
      have k1c := k1b.up e14
      have k2c := k2b.up e14
      rw [nxE_nil] at k1c k2c
      refine ⟨fun σ' H' => ∃ v1 cur' bs' L1 L2 L3 B', σ' = [some (.ref a), some v1, some (.ref p), some vm, some (.ref d1), some (.ref d2), some (.ref d3), some (.int (bs'.length : Nat)), some (.int (u : Int)), some ve, some vdue, some vold, some vbef] ∧ Ow (Fm.box p) B2 H2 B' H' (L1 ++ (L2 ++ (L3 ++ []))) ∧ DkD K CP CD n cur' bs' [] d1 L1 B' ∧ DkD K CP CD n cur' bs' [] d2 L2 B' ∧ DkD K CP CD 1 R1 [] [] d3 L3 B' ∧ Dd K B' v1 (gD n cur') ∧ SG n cur' ∧ bs'.length ≤ u + 1 ∧ Ex B14 B', ?_, ?_⟩
      · have cs : (∃ new, edO n cur ed = .kept new) ∨ ∃ (tag : Str) (x : PyData), ocD n (edO n cur ed) = .tuple [.str tag, x] ∧ (tag == ("kept" : Str)) = false ∧ SeqAt.shaped (.str tag) = true ∧ nxR cur (edO n cur ed) = cur ∧ nxB cur bs (edO n cur ed) = bs := by
          cases edO n cur ed with
          | num x => exact .inr ⟨"number", x, rfl, by decide +kernel, by decide +kernel, rfl, rfl⟩
          | rule x => exact .inr ⟨"rule", x, rfl, by decide +kernel, by decide +kernel, rfl, rfl⟩
          | alone => exact .inr ⟨"undefined", .str "alone", rfl, by decide +kernel, by decide +kernel, rfl, rfl⟩
          | kept new => exact .inl ⟨new, rfl⟩
        rcases cs with ⟨new, ho⟩ | ⟨tag, x, h1, h2, h4, h5, h6⟩
        · rw [ho] at k1c k2c hdue
          have k1c : DkD K CP CD n new (bs ++ [cur]) [] d1 L1b B14 := k1c
          have k2c : DkD K CP CD n new (bs ++ [cur]) [] d2 L2b B14 := k2c
          have hdue : Dd K B9 vdue (.tuple [.str "kept", gD n new]) := hdue
          refine wo_ifS (b := true) w14 (et_is (et_cmp (K := K) (ed_op (ed_op (ed_var (i := 10) rfl (hdue.up e914)) ed_int (rd_ixT at2_0)) ed_str (rd_eqD (by decide +kernel) (by decide +kernel)))) (by rw [eqv_str]; decide +kernel)) (fun _ B15 H15 w15 e15 => ?_) (fun h => nomatch h)
          refine wo_asg (P := DD K (gD n new)) w15 (ed_op (ed_var (i := 10) rfl ((hdue.up e914).up e15)) ed_int (rd_ixT at2_1)) fun v1' B16 H16 w16 e16 hv1' => ?_
          refine wo_asgS (Z := DD K (.int ((bs ++ [cur]).length : Nat))) w16 (ed_is (ed_op (K := K) (ed_var (i := 7) rfl (.int (bs.length : Nat))) ed_int rd_add) (by rw [List.length_append]; rfl)) fun v7 B17 H17 w17 e17 hv7 => ?_
          obtain rfl := dd_int hv7
          have e1417 := e15.trans (e16.trans e17)
          exact ⟨v1', new, bs ++ [cur], L1b, L2b, L3, B17, rfl, w17, k1c.up e1417, k2c.up e1417, (k3.up e714).up e1417, hv1'.up e17, edO_sg G7 hL ho, by rw [List.length_append]; show bs.length + 1 ≤ _; omega, e1417⟩
        · rw [h5, h6] at k1c k2c
          refine wo_ifS (b := false) w14 (et_is (et_cmp (K := K) (ed_op (ed_op (ed_is (ed_var (i := 10) rfl (hdue.up e914)) h1) ed_int (rd_ixT at2_0)) ed_str (rd_eqD h4 (by decide +kernel)))) (by rw [eqv_str]; exact h2)) (fun h => nomatch h) fun _ B15 H15 w15 e15 => ?_
          exact ⟨v1, cur, bs, L1b, L2b, L3, B15, rfl, w15, k1c.up e15, k2c.up e15, (k3.up e714).up e15, (hv1.up e714).up e15, G7, by omega, e15⟩
      rintro σ' H15 ⟨v1', cur', bs', L1c, L2c, L3c, B15, rfl, w15, k1d, k2d, k3d, hv1', G15, hbl', e15⟩
      have t1 := DkM.st (F := Fm.box p) (hn := w15.nt) k1d m1
      have t2 := DkM.st (F := Fm.box p) (hn := w15.nt) k2d m2
      refine wo_ifS (b := false) w15 (PW_or2 (et_now (i := 4) rfl t1 (sg_sm G15) (ed_var (i := 1) rfl hv1')) (PW_or2 (et_many T (i := 4) rfl t1 rfl (ed_var (i := 7) rfl (.int _))) (PW_or2 (et_rep (i := 4) rfl t1) (et_same (i := 4) (j := 5) rfl rfl t1 t2 G15)))) (fun h => nomatch h) fun _ B16 H16 w16 e16 => ?_
      exact ⟨B16, e7.trans (e714.trans (e15.trans e16)), _, _, _, _, _, v1', cur', bs', L1c, L2c, L3c, rfl, w16, k1d.up e16, k2d.up e16, k3d.up e16, hv1'.up e16, G15, hbl'⟩
    -- behind the turns
    obtain ⟨o8, o9, o10, o11, o12, v1, cur, bs, L1, L2, L3, rfl, w7, k1, k2', k3, hv1, G7, hbl⟩ := hj
    have l9 : bs.length ≤ 900 := by omega
    refine wq_refd w7 k1 G7 l9 (Nat.zero_le _) (i := 4) (j := 1) rfl rfl hv1 fun B8 H8 L1b w8 e8 k1b => ?_
    have t8 := DkM.st (F := Fm.box p) (hn := w8.nt) k1b m1
    refine (PW_or2 (et_now (i := 4) rfl t8 (sg_sm G7) (ed_var (i := 1) rfl (hv1.up e8))) (et_many T (i := 4) rfl t8 rfl (ed_var (i := 7) rfl (.int _)))) B8 (Ex.refl B8) H8 w8.ok _ fun B9 H9 s9 j9 => ?_
    have w9 := w8.back s9 j9
    have e79 := e8.trans s9.bb
    have hv9 := hv1.up e79
    have k9 := k1b.up s9.bb
    have t9 := DkM.st (F := Fm.box p) (hn := w9.nt) k9 m1
    have g7 := G7.gs
    refine (et_is (et_cmp (K := K) (F := (Fm.box p).wL (L1b ++ (L2 ++ (L3 ++ []))) w9.nt) (Dx.ev_op (B := B9) (ev_prs T (i := 4) rfl t9) (ev_mk (i := 1) rfl hv9 G7) upc_ins (rv_ownNe (rfl : SeqAt.shaped (.int ((n : Nat) : Int)) = true) G7.sm.sh (rfl : SeqAt.shaped (.int ((n : Nat) : Int)) = true) G7.sm.sh))) (b' := false) (by rw [eqv_int, eqv_refl _ G7.sm.1]; simp)) B9 (Ex.refl B9) H9 w9.ok _ fun B10 H10 s10 j10 => ?_
    have w10 := w9.back s10 j10
    have hv10 := hv9.up s10.bb
    have k10 := k9.up s10.bb
    have t10 := DkM.st (F := Fm.box p) (hn := w10.nt) k10 m1
    have lenE : ∀ {F : Fm} {σ : _root_.L2.St} {B5 : Hp} {te : TE}, EV F te σ B5 (InsP K CP (.int (n : Nat)) (.tuple cur)) → EV F (tCall (spLen K CP) [] E0 (tCons te tNil)) σ B5 (fun v B => ∃ x, LenS n cur x ∧ Dd K B v (.tuple ((List.range n).map fun k : Nat => .int (x k)))) := fun h B6 e6 H6 j6 Q6 q6 => h B6 e6 H6 j6 _ fun v B7 H7 s7 j7 g => ⟨B7, v, n, cur, rfl, j7.e, g, g7, fun v' B' H' x s hx gd => q6 v' B' H' (s7.trans s.pure) (j7.pure s) ⟨x, hx, gd⟩⟩
    refine (et_is (et_cmp (K := K) (b := false) (F := (Fm.box p).wL (L1b ++ (L2 ++ (L3 ++ []))) w10.nt) (Dx.ev_op (B := B10) (P := fun v B => ∃ x, LenS n cur x ∧ Dd K B v (.tuple ((List.range n).map fun k : Nat => .int (x k)))) (P' := fun v B => ∃ x, LenS n cur x ∧ Dd K B v (.tuple ((List.range n).map fun k : Nat => .int (x k)))) (lenE (ev_prs T (i := 4) rfl t10)) (lenE (ev_mk (i := 1) rfl hv10 G7)) (fun _ _ _ e ⟨x, hx, h⟩ => ⟨x, hx, h.up e⟩) fun B12 e12 H12 u v j12 hu hv Q q => by
        obtain ⟨x, hx, hu⟩ := hu
        obtain ⟨y, hy, hv⟩ := hv
        have exy : ((List.range n).map fun k : Nat => PyData.int (y k)) = ((List.range n).map fun k : Nat => PyData.int (x k)) := List.map_congr_left fun k hk => by
          rw [hy.uniq g7 hx (k : Nat) ⟨by omega, by have := List.mem_range.mp hk; omega⟩]
        rw [exy] at hv
        have sld : Sm 60 (.tuple ((List.range n).map fun k : Nat => PyData.int (x k))) := Sm.le (sm_tup (n := 1) fun y hy => by
          obtain ⟨k, _, rfl⟩ := List.mem_map.mp hy
          exact sm_int) (by decide)
        exact (rd_neD (F := (Fm.box p).wL (L1b ++ (L2 ++ (L3 ++ []))) w10.nt) (K := K) (B := B12) sld.sh sld.sh) B12 (Ex.refl B12) H12 u v j12 hu hv Q fun w B' H' s jj gw => q w B' H' s jj (by
          rw [eqv_refl _ sld.1] at gw
          exact gw))) rfl) B10 (Ex.refl B10) H10 w10.ok _ fun B11 H11 s11 j11 => ?_
    have w11 := w10.back s11 j11
    have hv11 := hv10.up s11.bb
    have k11 := k10.up s11.bb
    have e711 := (e79.trans s10.bb).trans s11.bb
    rw [if_neg (by decide)]
    refine tt_wb w11 G7 (i := 2) (j := 1) rfl rfl hv11 fun B12 H12 w12 e12 => ?_
    have t12 := DkM.st (F := Fm.box p) (hn := w12.nt) ((k3.up e711).up e12) m3
    refine wo_when (b := false) w12 (PW_or2 (et_now (i := 6) rfl t12 (sg_sm sg1) g1E) (et_many T (i := 6) rfl t12 rfl ed_int)) (fun h => nomatch h) fun _ B13 H13 w13 e13 => ?_
    have e1113 := e12.trans e13
    have t13 := DkM.st (F := Fm.box p) (hn := w13.nt) (k11.up e1113) m1
    have t13' := DkM.st (F := Fm.box p) (hn := w13.nt) ((k3.up e711).up e1113) m3
    have smc := sg_sm G7
    have sm1 := sg_sm sg1
    refine wo_ret (P := DD K (.bool true)) w13 (ed_F (z := .bool true) (eds_cons (ed_same (i := 4) (j := 6) rfl rfl t13 t13' G7 sg1) (eds_cons (ed_andV (ed_op (ed_var (i := 1) rfl (hv11.up e1113)) g1E (rd_eqD smc.sh sm1.sh)) fun _ => ed_op (ed_var (i := 7) rfl (.int (bs.length : Nat))) ed_int (rd_eqD rfl rfl)) eds_nil)) ⟨_, _, rfl⟩ (by
      show PyData.bool (sameB n 1 cur R1 bs [] [] [] == (PyData.eqv (gD n cur) (gD 1 R1) && PyData.eqv (.int (bs.length : Nat)) (.int 0))) = .bool true
      rw [same_due, beq_self_eq_true])) fun v B14 H14 w14 e14 hv => ?_
    obtain rfl := dd_bl hv
    exact q H14


end
end K50

namespace K50
open PySem PySem.Spec PyProof.Rows L2 Evl Ex Dx StX
open PySem.PyData (strOk)

structure TFact (K : PySem.W.Frag) (x : Str) (L : List Str) : Prop where
  ex : ∃ W, PySem.W.nsIn K mainGlobals x = some (some (.ref W)) ∧ ∀ H, Dd K H (.ref W) (.tuple (L.map .str))
theorem tfact3 {K : PySem.W.Frag} {x a b c : Str} {W : Addr} {od : Option Addr} {n : Nat} {sl : Array (Option Value)} {ta tb tc : Tok} (h : PySem.W.nsIn K mainGlobals x = some (some (.ref W))) (l : K.lookup W = some ⟨.type "tuple", od, .seq #[.str a ta, .str b tb, .str c tc] n, sl⟩) (la : a.length ≤ 100 := by decide) (lb : b.length ≤ 100 := by decide) (lc : c.length ≤ 100 := by decide) : TFact K x [a, b, c] :=
  ⟨W, h, fun H => .tup (xs := [.str a, .str b, .str c]) (.inr ⟨_, _, _, l, rfl, rfl, by show 3 ≤ sizeLine; decide, .cons ⟨_, rfl⟩ (.cons ⟨_, rfl⟩ (.cons ⟨_, rfl⟩ .nil))⟩) (by show 3 ≤ sizeLine; decide) (.cons (.str _ (by rw [sizeLine_eq]; omega)) (.cons (.str _ (by rw [sizeLine_eq]; omega)) (.cons (.str _ (by rw [sizeLine_eq]; omega)) .nil)))⟩
theorem tfact2 {K : PySem.W.Frag} {x a b : Str} {W : Addr} {od : Option Addr} {n : Nat} {sl : Array (Option Value)} {ta tb : Tok} (h : PySem.W.nsIn K mainGlobals x = some (some (.ref W))) (l : K.lookup W = some ⟨.type "tuple", od, .seq #[.str a ta, .str b tb] n, sl⟩) (la : a.length ≤ 100 := by decide) (lb : b.length ≤ 100 := by decide) : TFact K x [a, b] :=
  ⟨W, h, fun H => .tup (xs := [.str a, .str b]) (.inr ⟨_, _, _, l, rfl, rfl, by show 2 ≤ sizeLine; decide, .cons ⟨_, rfl⟩ (.cons ⟨_, rfl⟩ .nil)⟩) (by show 2 ≤ sizeLine; decide) (.cons (.str _ (by rw [sizeLine_eq]; omega)) (.cons (.str _ (by rw [sizeLine_eq]; omega)) .nil))⟩
structure PFact (K : PySem.W.Frag) (CP : Addr) : Prop where
  cl : Cls K CP
  nk : NoAttr K CP "kinds"
  nr : NoAttr K CP "rules"
  ca : PySem.W.findIn K (.ref CP) "__class__" = some (some (.builtin "object.__class__"))
  sg : PySem.W.specialIn K (.builtin "object.__class__") "__get__" = some (some (.builtin "getset_descriptor.__get__"))
  tk : PySem.W.takesIn K (.builtin "object.__class__") = some true
  mo : PySem.W.mroIn K CP (.type "object") = some true
theorem pfact_mk {K : PySem.W.Frag} {CP : Addr} (pg : PySem.W.plainGet K CP Str.empty = true) (hd : PySem.W.hasDictIn K CP = true) (po : PySem.W.plainOver K CP = true) (sa : PySem.W.findIn K (.ref CP) "__setattr__" = some (some (.builtin "object.__setattr__")))
    (nk : PySem.W.findIn K (.ref CP) "kinds" = some none) (nr : PySem.W.findIn K (.ref CP) "rules" = some none) (ca : PySem.W.findIn K (.ref CP) "__class__" = some (some (.builtin "object.__class__"))) (sg : PySem.W.specialIn K (.builtin "object.__class__") "__get__" = some (some (.builtin "getset_descriptor.__get__")))
    (tk : PySem.W.takesIn K (.builtin "object.__class__") = some true) (mo : PySem.W.mroIn K CP (.type "object") = some true) : PFact K CP := ⟨⟨pg, hd, po, sa⟩, nk, nr, ca, sg, tk, mo⟩
structure MFact (K : PySem.W.Frag) (C : Addr) (x qual : Str) (st : Stmt) (f : Addr) : Prop where
  m : Meth K C x f
  fn : ∃ fd, Fun K x qual st f fd
theorem mfact_mk {K : PySem.W.Frag} {C : Addr} {x qual : Str} {st : Stmt} {f : Addr} {od1 an1 : Option Addr} {sl1 : Array (Option Value)} {oc1 dc1 kV1 pm1 cd1 ct1 : Value} (a : PySem.W.findIn K (.ref C) x = some (some (.ref f))) (i : PySem.W.isFn K (.ref f) = true)
    (l1 : K.lookup f = some ⟨oc1, od1, .func (PySem.W.fnOf x qual (defArgs st) (defBody st) (defScope st) .none kV1 dc1 pm1 an1 cd1 ct1), sl1⟩) (c1 : PySem.W.codeIn K cd1 qual = true) (k1 : PySem.W.keepIn K (.ref f) = true) : MFact K C x qual st f := ⟨⟨a, i, k1⟩, _, fun_mk l1 c1 k1⟩
structure KFact (K : PySem.W.Frag) (CP CD : Addr) : Prop where
  cD : Cls K CD
  n1 : NoAttr K CD "pairs"
  n2 : NoAttr K CD "watched"
  n3 : NoAttr K CD "many"
  n4 : NoAttr K CD "_before"
  n5 : NoAttr K CD "_behind"
  n6 : NoAttr K CD "_kept"
  n7 : NoAttr K CD "_report"
  eqD : PySem.W.findIn K (.ref CD) "__eq__" = some (some (.builtin "object.__eq__"))
  moD : PySem.W.mroIn K CD (.type "object") = some true
  neP : PySem.W.findIn K (.ref CP) "__ne__" = some (some (.builtin "object.__ne__"))
theorem kfact_mk {K : PySem.W.Frag} {CP CD : Addr} (pg : PySem.W.plainGet K CD Str.empty = true) (hd : PySem.W.hasDictIn K CD = true) (po : PySem.W.plainOver K CD = true) (sa : PySem.W.findIn K (.ref CD) "__setattr__" = some (some (.builtin "object.__setattr__")))
    (n1 : PySem.W.findIn K (.ref CD) "pairs" = some none) (n2 : PySem.W.findIn K (.ref CD) "watched" = some none) (n3 : PySem.W.findIn K (.ref CD) "many" = some none) (n4 : PySem.W.findIn K (.ref CD) "_before" = some none) (n5 : PySem.W.findIn K (.ref CD) "_behind" = some none) (n6 : PySem.W.findIn K (.ref CD) "_kept" = some none) (n7 : PySem.W.findIn K (.ref CD) "_report" = some none)
    (eqD : PySem.W.findIn K (.ref CD) "__eq__" = some (some (.builtin "object.__eq__"))) (moD : PySem.W.mroIn K CD (.type "object") = some true) (neP : PySem.W.findIn K (.ref CP) "__ne__" = some (some (.builtin "object.__ne__"))) : KFact K CP CD := ⟨⟨pg, hd, po, sa⟩, n1, n2, n3, n4, n5, n6, n7, eqD, moD, neP⟩
abbrev s_alike : Stmt := topS 8
abbrev s_looked_at : Stmt := topS 103
def pairTab (K : PySem.W.Frag) (c0 c1 c2 CP cR cU cN CD : Addr) : Bool := decide (PySem.W.exmOne K (.ref c0) (.ref c0) = some true) && (decide (PySem.W.exmOne K (.ref c1) (.ref c0) = some false) && (decide (PySem.W.exmOne K (.ref c1) (.ref c1) = some true) && (decide (PySem.W.exmOne K (.ref c2) (.ref c0) = some false) && (decide (PySem.W.exmOne K (.ref c2) (.ref c1) = some false) && (decide (PySem.W.exmOne K (.ref c2) (.ref c2) = some true) && (decide (PySem.W.kitOne K (.ref CP) (.ref CP) = some true) && (decide (PySem.W.kitOne K (.type "tuple") (.ref CP) = some false) && (decide (PySem.W.exmOne K (.ref cR) (.ref c0) = some false) && (decide (PySem.W.exmOne K (.ref cR) (.ref cR) = some true) && (decide (PySem.W.exmOne K (.ref cU) (.ref c0) = some false) && (decide (PySem.W.exmOne K (.ref cU) (.ref cR) = some false) && (decide (PySem.W.exmOne K (.ref cU) (.ref cU) = some true)))))))))))))

theorem all_mk {l : PySem.W.OpenLaw} {w : World} {K : PySem.W.Frag} {h : Heap} {mg : Str → Option Value} {fa c0 c1 c2 cR cU cN CD G CP : Addr} {f_is_integer f_is_between f_is_word f_is_rule f_is_rules f_steps_of f_kinds_behind f_endless_kind f_part_kinds f_is_live f_live_kinds f_live_rules f_live_steps f_kinds_in_order f_words_by f_lengths f_law_box f_law_take f_law_pick f_law_is_due f_law_unary f_law_back_kind f_law_shuffled f_law_grammar f_law_made f_same_state f_law_now f_law_do f_law_deed f_law_drawn_rule f_law_edit f_law_edited f_law_are_refused f_law_is_walked_back f_looked_at f_alike f_law f__become f__do f_undo f_redo f_report f__edit f_put f_turn f_take fE : Addr} {t_MOST_RULES_AT_DESK t_MOST_STEPS t_NOT_LIVE t_ENDLESS t_MOST_LETTERS t_MOST_RULES t_MOST_KINDS : Tok} (X : K.In h) (N : h.Ns mainGlobals mg) (hfa : mg "law" = some (.ref fa))
    (e0 : XFact K "InvalidNumber" "value" "InvalidNumber.__init__" s_InvalidNumber_init c0)
    (e1 : XFact K "InvalidRules" "value" "InvalidRules.__init__" s_InvalidRules_init c1)
    (e2 : XFact K "Endless" "kind" "Endless.__init__" s_Endless_init c2)
    (e3 : XFact K "InvalidRule" "value" "InvalidRule.__init__" s_InvalidRule_init cR)
    (e4 : XFact K "Undefined" "what" "Undefined.__init__" s_Undefined_init cU)
    (e5 : XFact K "NothingToUndo" "word" "NothingToUndo.__init__" s_NothingToUndo_init cN)
    (g : GFact K "GraftError" G)
    (z_len : PySem.W.nsIn K mainGlobals "len" = some none)
    (z_abs : PySem.W.nsIn K mainGlobals "abs" = some none)
    (z_int : PySem.W.nsIn K mainGlobals "int" = some none)
    (z_str : PySem.W.nsIn K mainGlobals "str" = some none)
    (z_bool : PySem.W.nsIn K mainGlobals "bool" = some none)
    (z_tuple : PySem.W.nsIn K mainGlobals "tuple" = some none)
    (z_list : PySem.W.nsIn K mainGlobals "list" = some none)
    (z_all : PySem.W.nsIn K mainGlobals "all" = some none)
    (z_isinstance : PySem.W.nsIn K mainGlobals "isinstance" = some none)
    (z_range : PySem.W.nsIn K mainGlobals "range" = some none)
    (z_sum : PySem.W.nsIn K mainGlobals "sum" = some none)
    (z_any : PySem.W.nsIn K mainGlobals "any" = some none)
    (z_max : PySem.W.nsIn K mainGlobals "max" = some none)
    (z_zip : PySem.W.nsIn K mainGlobals "zip" = some none)
    (k_MOST_RULES_AT_DESK : PySem.W.nsIn K mainGlobals "MOST_RULES_AT_DESK" = some (some (.int 12 t_MOST_RULES_AT_DESK)))
    (k_MOST_STEPS : PySem.W.nsIn K mainGlobals "MOST_STEPS" = some (some (.int 90 t_MOST_STEPS)))
    (k_NOT_LIVE : PySem.W.nsIn K mainGlobals "NOT_LIVE" = some (some (.int (-1) t_NOT_LIVE)))
    (k_ENDLESS : PySem.W.nsIn K mainGlobals "ENDLESS" = some (some (.int (-2) t_ENDLESS)))
    (k_MOST_LETTERS : PySem.W.nsIn K mainGlobals "MOST_LETTERS" = some (some (.int 3 t_MOST_LETTERS)))
    (k_MOST_RULES : PySem.W.nsIn K mainGlobals "MOST_RULES" = some (some (.int 90 t_MOST_RULES)))
    (k_MOST_KINDS : PySem.W.nsIn K mainGlobals "MOST_KINDS" = some (some (.int 40 t_MOST_KINDS)))
    (w_WORD : TFact K "WORD_SHAPES" ["left", "right"])
    (w_ONE : TFact K "ONE_SHAPES" ["same", "first", "last"])
    (w_TWO : TFact K "TWO_SHAPES" ["wrap", "ahead", "behind"])
    (pc : CFact K "Pairs" "Pairs.__init__" s_Pairs_init CP)
    (pl : PFact K CP)
    (d_is_integer : DFact K "is_integer" s_is_integer f_is_integer)
    (d_is_between : DFact K "is_between" s_is_between f_is_between)
    (d_is_word : DFact K "is_word" s_is_word f_is_word)
    (d_is_rule : DFact K "is_rule" s_is_rule f_is_rule)
    (d_is_rules : DFact K "is_rules" s_is_rules f_is_rules)
    (d_steps_of : DFact K "steps_of" s_steps_of f_steps_of)
    (d_kinds_behind : DFact K "kinds_behind" s_kinds_behind f_kinds_behind)
    (d_endless_kind : DFact K "endless_kind" s_endless_kind f_endless_kind)
    (d_part_kinds : DFact K "part_kinds" s_part_kinds f_part_kinds)
    (d_is_live : DFact K "is_live" s_is_live f_is_live)
    (d_live_kinds : DFact K "live_kinds" s_live_kinds f_live_kinds)
    (d_live_rules : DFact K "live_rules" s_live_rules f_live_rules)
    (d_live_steps : DFact K "live_steps" s_live_steps f_live_steps)
    (d_kinds_in_order : DFact K "kinds_in_order" s_kinds_in_order f_kinds_in_order)
    (d_words_by : DFact K "words_by" s_words_by f_words_by)
    (d_lengths : DFact K "lengths" s_lengths f_lengths)
    (d_law_box : DFact K "_law_box" s_law_box f_law_box)
    (d_law_take : DFact K "_law_take" s_law_take f_law_take)
    (d_law_pick : DFact K "_law_pick" s_law_pick f_law_pick)
    (d_law_is_due : DFact K "_law_is_due" s_law_is_due f_law_is_due)
    (d_law_unary : DFact K "_law_unary" s_law_unary f_law_unary)
    (d_law_back_kind : DFact K "_law_back_kind" s_law_back_kind f_law_back_kind)
    (d_law_shuffled : DFact K "_law_shuffled" s_law_shuffled f_law_shuffled)
    (d_law_grammar : DFact K "_law_grammar" s_law_grammar f_law_grammar)
    (d_law_made : DFact K "_law_made" s_law_made f_law_made)
    (d_same_state : DFact K "same_state" s_same_state f_same_state)
    (d_law_now : DFact K "_law_now" s_law_now f_law_now)
    (d_law_do : DFact K "_law_do" s_law_do f_law_do)
    (d_law_deed : DFact K "_law_deed" s_law_deed f_law_deed)
    (d_law_drawn_rule : DFact K "_law_drawn_rule" s_law_drawn_rule f_law_drawn_rule)
    (d_law_edit : DFact K "_law_edit" s_law_edit f_law_edit)
    (d_law_edited : DFact K "_law_edited" s_law_edited f_law_edited)
    (d_law_are_refused : DFact K "_law_are_refused" s_law_are_refused f_law_are_refused)
    (d_law_is_walked_back : DFact K "_law_is_walked_back" s_law_is_walked_back f_law_is_walked_back)
    (d_looked_at : DFact K "looked_at" s_looked_at f_looked_at)
    (d_alike : DFact K "alike" s_alike f_alike)
    (d_law : DFact K "law" s_law f_law)
    (m__become : MFact K CD "_become" "Desk._become" s_Desk_become f__become)
    (m__do : MFact K CD "_do" "Desk._do" s_Desk_do f__do)
    (m_undo : MFact K CD "undo" "Desk.undo" s_Desk_undo f_undo)
    (m_redo : MFact K CD "redo" "Desk.redo" s_Desk_redo f_redo)
    (m_report : MFact K CD "report" "Desk.report" s_Desk_report f_report)
    (m__edit : MFact K CD "_edit" "Desk._edit" s_Desk_edit f__edit)
    (m_put : MFact K CD "put" "Desk.put" s_Desk_put f_put)
    (m_turn : MFact K CD "turn" "Desk.turn" s_Desk_turn f_turn)
    (m_take : MFact K CD "take" "Desk.take" s_Desk_take f_take)
    (dc : CFact K "Desk" "Desk.__init__" s_Desk_init CD)
    (dk : KFact K CP CD)
    (pe : MFact K CP "__eq__" "Pairs.__eq__" s_Pairs_eq fE)
    (tb : pairTab K c0 c1 c2 CP cR cU cN CD = true) :
    ∃ fd : FuncData, (∀ (s : Shared) (v : Value), BindsTo s fd ⟨[v], []⟩ [("script", v)]) ∧ ∀ base : Heap, K.In base → base.Ns mainGlobals mg → FnOk l.prog w K mg base CX0 12 fa fd ["script"] (spLaw K) := by
  have e := hfa.symm.trans (PySem.W.mg_of X N d_law.a)
  cases e
  obtain ⟨fd, F⟩ := d_law.fn
  simp only [pairTab, Bool.and_eq_true, decide_eq_true_eq] at tb
  obtain ⟨q1, q2, q3, q4, q5, q6, q7, q8, q9, q10, q11, q12, q13⟩ := tb
  refine ⟨fd, fun s v => ?_, fun base hK hN => ?_⟩
  · obtain ⟨oc, od, kV, doc, pm, an, cdv, ct, osl, rfl, lk, hcd⟩ := F.ex
    exact .of_eq rfl
  · have gG : mg "GraftError" = some (.ref G) := PySem.W.mg_of X N g.a
    have TT : TC K mg :=
      { m_len := PySem.W.mg_none_of X N z_len,
        m_abs := PySem.W.mg_none_of X N z_abs,
        m_int := PySem.W.mg_none_of X N z_int,
        m_str := PySem.W.mg_none_of X N z_str,
        m_bool := PySem.W.mg_none_of X N z_bool,
        m_tuple := PySem.W.mg_none_of X N z_tuple,
        m_list := PySem.W.mg_none_of X N z_list,
        m_all := PySem.W.mg_none_of X N z_all,
        m_isinstance := PySem.W.mg_none_of X N z_isinstance,
        m_range := PySem.W.mg_none_of X N z_range,
        c_MOST_RULES_AT_DESK := ⟨_, PySem.W.mg_of X N k_MOST_RULES_AT_DESK⟩,
        c_MOST_STEPS := ⟨_, PySem.W.mg_of X N k_MOST_STEPS⟩,
        c_NOT_LIVE := ⟨_, PySem.W.mg_of X N k_NOT_LIVE⟩,
        c_ENDLESS := ⟨_, PySem.W.mg_of X N k_ENDLESS⟩,
        c_MOST_LETTERS := ⟨_, PySem.W.mg_of X N k_MOST_LETTERS⟩,
        c_MOST_RULES := ⟨_, PySem.W.mg_of X N k_MOST_RULES⟩,
        c_MOST_KINDS := ⟨_, PySem.W.mg_of X N k_MOST_KINDS⟩,
        w_WORD := ⟨by obtain ⟨W, h1, h2⟩ := w_WORD.ex; exact ⟨W, PySem.W.mg_of X N h1, h2⟩⟩,
        w_ONE := ⟨by obtain ⟨W, h1, h2⟩ := w_ONE.ex; exact ⟨W, PySem.W.mg_of X N h1, h2⟩⟩,
        w_TWO := ⟨by obtain ⟨W, h1, h2⟩ := w_TWO.ex; exact ⟨W, PySem.W.mg_of X N h1, h2⟩⟩ }
    have T : TP l.prog w K mg base c0 c1 c2 CP :=
      { toTC := TT,
        x_InvalidNumber := e0.at X N (fun f1 fd F => ok_InvalidNumber F gG g.rd g.gi e0.oc e0.no) (fun f1 fd F => F.binds fun _ _ _ _ _ _ us hl => match us, hl with | [_, _], _ => rfl),
        x_InvalidRules := e1.at X N (fun f1 fd F => ok_InvalidRules F gG g.rd g.gi e1.oc e1.no) (fun f1 fd F => F.binds fun _ _ _ _ _ _ us hl => match us, hl with | [_, _], _ => rfl),
        x_Endless := e2.at X N (fun f1 fd F => ok_Endless F gG g.rd g.gi e2.oc e2.no) (fun f1 fd F => F.binds fun _ _ _ _ _ _ us hl => match us, hl with | [_, _], _ => rfl),
        g_Pairs := PySem.W.mg_of X N pc.a,
        cl := pl.cl,
        nk := pl.nk,
        nr := pl.nr,
        ca := pl.ca,
        sg := pl.sg,
        tk := pl.tk,
        mo := pl.mo,
        kt1 := q7,
        kt2 := q8,
        m00 := q1,
        m10 := q2,
        m11 := q3,
        m20 := q4,
        m21 := q5,
        m22 := q6 }
    have T2 : TK l.prog w K mg base c0 c1 c2 CP cR cU cN CD := { toTP := T, x_InvalidRule := e3.at X N (fun f1 fd F => ok_InvalidRule F gG g.rd g.gi e3.oc e3.no) (fun f1 fd F => F.binds fun _ _ _ _ _ _ us hl => match us, hl with | [_, _], _ => rfl), x_Undefined := e4.at X N (fun f1 fd F => ok_Undefined F gG g.rd g.gi e4.oc e4.no) (fun f1 fd F => F.binds fun _ _ _ _ _ _ us hl => match us, hl with | [_, _], _ => rfl), x_NothingToUndo := e5.at X N (fun f1 fd F => ok_NothingToUndo F gG g.rd g.gi e5.oc e5.no) (fun f1 fd F => F.binds fun _ _ _ _ _ _ us hl => match us, hl with | [_, _], _ => rfl), mR0 := q9, mRR := q10, mU0 := q11, mUR := q12, mUU := q13, g_Desk := PySem.W.mg_of X N dc.a, cD := dk.cD, n_pairs := dk.n1, n_watched := dk.n2, n_many := dk.n3, n_before := dk.n4, n_behind := dk.n5, n_kept := dk.n6, n_report := dk.n7, eqD := dk.eqD, moD := dk.moD, neP := dk.neP }
    obtain ⟨fD, fdD, MD, FD⟩ := dc.made
    have bD : L2.Binds K fdD ["self", "pairs"] [] := FD.binds fun _ _ _ _ _ _ us hl => match us, hl with | [_, _], _ => rfl
    have GD : FnOk l.prog w K mg base CX0 1 fD fdD ["self", "pairs"] (spDin K CP CD) := ok_desk FD T2
    obtain ⟨fdE, FE⟩ := pe.fn
    have bE : L2.Binds K fdE ["self", "other"] [] := FE.binds fun _ _ _ _ _ _ us hl => match us, hl with | [_, _], _ => rfl
    have GE : FnOk l.prog w K mg base CX0 1 fE fdE ["self", "other"] (spEq K CP) := ok_eq FE T
    have C1 : Callee l.prog w K mg base "looked_at" 1 ["pairs", "question", "kept"] spNever := d_looked_at.callee X N (fun fd F => ok_never) (fun fd F => F.binds fun _ _ _ _ _ _ us hl => match us, hl with | [_, _, _], _ => rfl)
    have C2 : Callee l.prog w K mg base "alike" 1 ["value", "due"] spNever := d_alike.callee X N (fun fd F => ok_never) (fun fd F => F.binds fun _ _ _ _ _ _ us hl => match us, hl with | [_, _], _ => rfl)
    have C3 : Callee l.prog w K mg base "is_integer" 1 ["value"] (spInt K) := d_is_integer.callee X N (fun fd F => ok_is_integer F TT.toTB) (fun fd F => F.binds fun _ _ _ _ _ _ us hl => match us, hl with | [_], _ => rfl)
    have C4 : Callee l.prog w K mg base "is_between" 2 ["value", "low", "high"] (spBetween K) := d_is_between.callee X N (fun fd F => ok_is_between F TT.toTB C3) (fun fd F => F.binds fun _ _ _ _ _ _ us hl => match us, hl with | [_, _, _], _ => rfl)
    have C5 : Callee l.prog w K mg base "is_word" 1 ["value"] (spF K pre1 fWord) := d_is_word.callee X N (fun fd F => ok_is_word F TT) (fun fd F => F.binds fun _ _ _ _ _ _ us hl => match us, hl with | [_], _ => rfl)
    have C6 : Callee l.prog w K mg base "is_rule" 3 ["value", "kinds"] (spF K (fun ds => ∃ d n, ds = [d, .int n]) fRule) := d_is_rule.callee X N (fun fd F => ok_is_rule F TT C4 C5) (fun fd F => F.binds fun _ _ _ _ _ _ us hl => match us, hl with | [_, _], _ => rfl)
    have C7 : Callee l.prog w K mg base "is_rules" 4 ["value", "kinds"] (spF K (fun ds => ∃ d n, ds = [d, .int n]) fRules) := d_is_rules.callee X N (fun fd F => ok_is_rules F TT C6) (fun fd F => F.binds fun _ _ _ _ _ _ us hl => match us, hl with | [_, _], _ => rfl)
    have C8 : Callee l.prog w K mg base "steps_of" 1 ["kinds", "rules"] (spF K preS fSteps) := d_steps_of.callee X N (fun fd F => ok_steps_of F TT) (fun fd F => F.binds fun _ _ _ _ _ _ us hl => match us, hl with | [_, _], _ => rfl)
    have C9 : Callee l.prog w K mg base "kinds_behind" 1 ["steps", "kind"] (spKB K) := d_kinds_behind.callee X N (fun fd F => ok_kinds_behind F TT) (fun fd F => F.binds fun _ _ _ _ _ _ us hl => match us, hl with | [_, _], _ => rfl)
    have C10 : Callee l.prog w K mg base "endless_kind" 2 ["steps"] (spEK K) := d_endless_kind.callee X N (fun fd F => ok_endless_kind F TT C9) (fun fd F => F.binds fun _ _ _ _ _ _ us hl => match us, hl with | [_], _ => rfl)
    have C11 : Callee l.prog w K mg base "part_kinds" 1 ["rule"] (spF K preRF fPts) := d_part_kinds.callee X N (fun fd F => ok_part_kinds F TT) (fun fd F => F.binds fun _ _ _ _ _ _ us hl => match us, hl with | [_], _ => rfl)
    have C12 : Callee l.prog w K mg base "is_live" 2 ["rule", "live"] (spF K preLive fLive) := d_is_live.callee X N (fun fd F => ok_is_live F TT C11) (fun fd F => F.binds fun _ _ _ _ _ _ us hl => match us, hl with | [_, _], _ => rfl)
    have C13 : Callee l.prog w K mg base "live_kinds" 3 ["pairs"] (spIns K CP fLvK) := d_live_kinds.callee X N (fun fd F => ok_live_kinds F T C12) (fun fd F => F.binds fun _ _ _ _ _ _ us hl => match us, hl with | [_], _ => rfl)
    have C14 : Callee l.prog w K mg base "live_rules" 3 ["pairs", "live"] (spLR K CP) := d_live_rules.callee X N (fun fd F => ok_live_rules F T C12) (fun fd F => F.binds fun _ _ _ _ _ _ us hl => match us, hl with | [_, _], _ => rfl)
    have C15 : Callee l.prog w K mg base "live_steps" 4 ["pairs", "live"] (spLS K CP) := d_live_steps.callee X N (fun fd F => ok_live_steps F T C11 C14) (fun fd F => F.binds fun _ _ _ _ _ _ us hl => match us, hl with | [_, _], _ => rfl)
    have C16 : Callee l.prog w K mg base "kinds_in_order" 1 ["steps"] (spKO K) := d_kinds_in_order.callee X N (fun fd F => ok_kinds_in_order F TT) (fun fd F => F.binds fun _ _ _ _ _ _ us hl => match us, hl with | [_], _ => rfl)
    have C17 : Callee l.prog w K mg base "words_by" 2 ["rule", "told"] (spWB K) := d_words_by.callee X N (fun fd F => ok_words_by F TT (PySem.W.mg_none_of X N z_sum) C11) (fun fd F => F.binds fun _ _ _ _ _ _ us hl => match us, hl with | [_, _], _ => rfl)
    have C18 : Callee l.prog w K mg base "lengths" 5 ["pairs"] (spLen K CP) := d_lengths.callee X N (fun fd F => ok_lengths F T (PySem.W.mg_none_of X N z_any) (PySem.W.mg_none_of X N z_max) C13 C15 C9 C16 C14 C17) (fun fd F => F.binds fun _ _ _ _ _ _ us hl => match us, hl with | [_], _ => rfl)
    have C19 : Callee l.prog w K mg base "_law_box" 1 ["script", "k"] (spBoxN K) := d_law_box.callee X N (fun fd F => ok_box F TT.toTB) (fun fd F => F.binds fun _ _ _ _ _ _ us hl => match us, hl with | [_, _], _ => rfl)
    have C20 : Callee l.prog w K mg base "_law_take" 1 ["box", "many"] (spTake K) := d_law_take.callee X N (fun fd F => ok_take F TT.toTB) (fun fd F => F.binds fun _ _ _ _ _ _ us hl => match us, hl with | [_, _], _ => rfl)
    have C21 : Callee l.prog w K mg base "_law_pick" 2 ["box", "some"] (spPick K) := d_law_pick.callee X N (fun fd F => ok_pick F TT.toTB C20) (fun fd F => F.binds fun _ _ _ _ _ _ us hl => match us, hl with | [_, _], _ => rfl)
    have C22 : Callee l.prog w K mg base "_law_is_due" 1 ["told", "due"] (spF K (fun ds => ∃ a b, ds = [.bool a, .bool b]) fIs) := d_law_is_due.callee X N (fun fd F => ok_law_is_due F TT) (fun fd F => F.binds fun _ _ _ _ _ _ us hl => match us, hl with | [_, _], _ => rfl)
    have C23 : Callee l.prog w K mg base "_law_unary" 1 ["rules"] (spF K preUn fUn) := d_law_unary.callee X N (fun fd F => ok_law_unary F TT) (fun fd F => F.binds fun _ _ _ _ _ _ us hl => match us, hl with | [_], _ => rfl)
    have C24 : Callee l.prog w K mg base "_law_back_kind" 1 ["steps", "kinds"] (spF K preBack fBack) := d_law_back_kind.callee X N (fun fd F => ok_law_back_kind F TT) (fun fd F => F.binds fun _ _ _ _ _ _ us hl => match us, hl with | [_, _], _ => rfl)
    have C25 : Callee l.prog w K mg base "_law_shuffled" 2 ["box", "some"] (spShuf K) := d_law_shuffled.callee X N (fun fd F => ok_shuffled F TT C20) (fun fd F => F.binds fun _ _ _ _ _ _ us hl => match us, hl with | [_, _], _ => rfl)
    have C26 : Callee l.prog w K mg base "_law_grammar" 3 ["script", "most"] (spGram K) := d_law_grammar.callee X N (fun fd F => ok_grammar F TT C19 C20 C21 C23 C24 C25) (fun fd F => F.binds fun _ _ _ _ _ _ us hl => match us, hl with | [_, _], _ => rfl)
    obtain ⟨fI, fdI, M, FI⟩ := pc.made -- PAIRSLINE
    have bP : L2.Binds K fdI ["self", "kinds", "rules"] [] := FI.binds fun _ _ _ _ _ _ us hl => match us, hl with | [_, _, _], _ => rfl
    have GP : FnOk l.prog w K mg base (L2.CX l.prog w) 5 fI fdI ["self", "kinds", "rules"] (spPairs K CP c0 c1 c2) := ok_pairs FI T C4 C7 C10 C8
    have C27 : Callee l.prog w K mg base "_law_made" 7 ["grammar"] (spMade K CP) := d_law_made.callee X N (fun fd F => ok_law_made F T M GP bP) (fun fd F => F.binds fun _ _ _ _ _ _ us hl => match us, hl with | [_], _ => rfl)
    have C28 : Mt.MethX l.prog w K mg base CX0 CD "_become" 2 ["self", "pairs", "watched"] (spBec K CP CD) := ⟨by obtain ⟨fd, F⟩ := m__become.fn; exact ⟨_, fd, ok_become F T2 (PySem.W.mg_none_of X N z_zip) C1, m__become.m, F.binds fun _ _ _ _ _ _ us hl => match us, hl with | [_, _, _], _ => rfl⟩⟩
    have C29 : Mt.MethX l.prog w K mg base CX0 CD "_do" 3 ["self", "pairs", "watched"] (spDo K CP CD) := ⟨by obtain ⟨fd, F⟩ := m__do.fn; exact ⟨_, fd, ok_do F T2 C28, m__do.m, F.binds fun _ _ _ _ _ _ us hl => match us, hl with | [_, _, _], _ => rfl⟩⟩
    have C30 : Mt.MethX l.prog w K mg base (L2.CX l.prog w) CD "undo" 3 ["self"] (spUndo K CP CD) := ⟨by obtain ⟨fd, F⟩ := m_undo.fn; exact ⟨_, fd, ok_undo F T2 C28, m_undo.m, F.binds fun _ _ _ _ _ _ us hl => match us, hl with | [_], _ => rfl⟩⟩
    have C31 : Mt.MethX l.prog w K mg base (L2.CX l.prog w) CD "redo" 3 ["self"] (spRedo K CP CD) := ⟨by obtain ⟨fd, F⟩ := m_redo.fn; exact ⟨_, fd, ok_redo F T2 C28, m_redo.m, F.binds fun _ _ _ _ _ _ us hl => match us, hl with | [_], _ => rfl⟩⟩
    have C32 : Mt.MethX l.prog w K mg base CX0 CD "report" 1 ["self"] (spRep K CP CD) := ⟨by obtain ⟨fd, F⟩ := m_report.fn; exact ⟨_, fd, ok_report F T2, m_report.m, F.binds fun _ _ _ _ _ _ us hl => match us, hl with | [_], _ => rfl⟩⟩
    have C33 : Mt.MethX l.prog w K mg base (L2.CX l.prog w) CD "_edit" 7 ["self", "rules", "rule"] (spEdit K CP CD c0 cR cU) := ⟨by obtain ⟨fd, F⟩ := m__edit.fn; exact ⟨_, fd, ok_edit F T2 C10 C8 M GP bP C29, m__edit.m, F.binds fun _ _ _ _ _ _ us hl => match us, hl with | [_, _, _], _ => rfl⟩⟩
    have C34 : Mt.MethX l.prog w K mg base (L2.CX l.prog w) CD "put" 8 ["self", "place", "rule"] (spPut K CP CD c0 cR cU putO) := ⟨by obtain ⟨fd, F⟩ := m_put.fn; exact ⟨_, fd, ok_put F T2 C4 C6 C33, m_put.m, F.binds fun _ _ _ _ _ _ us hl => match us, hl with | [_, _, _], _ => rfl⟩⟩
    have C35 : Mt.MethX l.prog w K mg base (L2.CX l.prog w) CD "turn" 8 ["self", "place", "rule"] (spPut K CP CD c0 cR cU turnO) := ⟨by obtain ⟨fd, F⟩ := m_turn.fn; exact ⟨_, fd, ok_turn F T2 C4 C6 C33, m_turn.m, F.binds fun _ _ _ _ _ _ us hl => match us, hl with | [_, _, _], _ => rfl⟩⟩
    have C36 : Mt.MethX l.prog w K mg base (L2.CX l.prog w) CD "take" 8 ["self", "place"] (spTk K CP CD c0 cR cU) := ⟨by obtain ⟨fd, F⟩ := m_take.fn; exact ⟨_, fd, ok_tk F T2 C4 M GP bP C29, m_take.m, F.binds fun _ _ _ _ _ _ us hl => match us, hl with | [_, _], _ => rfl⟩⟩
    have C37 : Callee l.prog w K mg base "same_state" 3 ["one", "other"] (spSame K CP CD) := d_same_state.callee X N (fun fd F => ok_same_state F T2 GE pe.m.at_ pe.m.fn bE C2) (fun fd F => F.binds fun _ _ _ _ _ _ us hl => match us, hl with | [_, _], _ => rfl)
    have C38 : Callee l.prog w K mg base "_law_now" 1 ["desk"] (spNow K CP CD) := d_law_now.callee X N (fun fd F => ok_law_now F T2) (fun fd F => F.binds fun _ _ _ _ _ _ us hl => match us, hl with | [_], _ => rfl)
    have C39 : CalleeX l.prog w K mg base "_law_do" 9 ["desk", "edit"] (spLdo K CP CD c0 cR cU) := ⟨by obtain ⟨fd, F⟩ := d_law_do.fn; exact ⟨_, fd, ok_law_do F T2 C34 C35 C36, PySem.W.mg_of X N d_law_do.a, F.kp, F.binds fun _ _ _ _ _ _ us hl => match us, hl with | [_, _], _ => rfl⟩⟩
    have C40 : Callee l.prog w K mg base "_law_deed" 10 ["desk", "edit"] (spDeed K CP CD) := d_law_deed.callee X N (fun fd F => ok_law_deed F T2 C39 C38) (fun fd F => F.binds fun _ _ _ _ _ _ us hl => match us, hl with | [_, _], _ => rfl)
    have C41 : Callee l.prog w K mg base "_law_drawn_rule" 3 ["box", "grammar"] (spDr K) := d_law_drawn_rule.callee X N (fun fd F => ok_drawn_rule F TT C20 C21) (fun fd F => F.binds fun _ _ _ _ _ _ us hl => match us, hl with | [_, _], _ => rfl)
    have C42 : Callee l.prog w K mg base "_law_edit" 4 ["box", "grammar"] (spEdt K) := d_law_edit.callee X N (fun fd F => ok_law_edit F TT C20 C21 C41) (fun fd F => F.binds fun _ _ _ _ _ _ us hl => match us, hl with | [_, _], _ => rfl)
    have C43 : Callee l.prog w K mg base "_law_edited" 2 ["grammar", "edit"] (spEdd K) := d_law_edited.callee X N (fun fd F => ok_law_edited F TT C23 C24) (fun fd F => F.binds fun _ _ _ _ _ _ us hl => match us, hl with | [_, _], _ => rfl)
    have C44 : Callee l.prog w K mg base "_law_are_refused" 11 ["desk", "grammar"] (spRef K CP CD) := d_law_are_refused.callee X N (fun fd F => ok_law_are_refused F T2 C40) (fun fd F => F.binds fun _ _ _ _ _ _ us hl => match us, hl with | [_, _], _ => rfl)
    have C45 : Callee l.prog w K mg base "_law_is_walked_back" 10 ["box", "grammar"] (spWb K) := d_law_is_walked_back.callee X N (fun fd F => ok_law_is_walked_back F T2 MD GD bD C27 C20 C21 C39 C43 C38 C30 C31) (fun fd F => F.binds fun _ _ _ _ _ _ us hl => match us, hl with | [_, _], _ => rfl)
    exact ok_law F T2 MD GD bD M GP bP GE pe.m.at_ pe.m.fn bE C26 C19 C27 C20 C37 C32 C42 C43 C38 C40 C44 C45 C18 C22
theorem walk {l : PySem.W.OpenLaw} {q : Program} {loose : List Str} {XP : (Str → Option Value) → Heap → Prop} {YP : World → Heap → Prop} {d : DefRec} {K : Params → PySem.W.Frag} (hn : l.most = some 63) (hdf : d.params.defaults = [])
    (hY : ∀ (w : World) (h : Heap), YP w h → (K w.params).In h)
    (F : ∀ (w : World) (mg : Str → Option Value) (fa : Addr) (h : Heap), (K w.params).In h → h.Ns mainGlobals mg → mg d.name = some (.ref fa) →
      ∃ fd : FuncData, (∀ (s : Shared) (u : Value), BindsTo s fd ⟨[u], []⟩ [("script", u)]) ∧ ∀ base : Heap, (K w.params).In base → base.Ns mainGlobals mg → FnOk l.prog w (K w.params) mg base CX0 12 fa fd ["script"] (spLaw (K w.params))) :
    PySem.W.WalkO q loose XP YP l.row.toRowW d [] (fun f vs => PySem.call f vs) :=
  L2.walk_of (n := 63) (k := 12) (x := "script") (CX := fun _ => CX0) (sp := fun w => spLaw (K w.params)) hn (by decide) hdf ⟨rfl, by decide, by decide⟩ hY F (fun _ _ a ns hl _ hS => ⟨a, ns, rfl, hS, hl, fun _ => rfl⟩) fun _ _ _ _ _ z => z
end K50

namespace K50
open PySem PySem.W PyProof.Rows
def tk {α : Type} : Nat → List α → List α
  | 0, _ => []
  | _ + 1, [] => []
  | n + 1, x :: l => x :: tk n l
def dr {α : Type} : Nat → List α → List α
  | 0, l => l
  | _ + 1, [] => []
  | n + 1, _ :: l => dr n l
theorem tk_take {α : Type} : ∀ (n : Nat) (l : List α), tk n l = l.take n
  | 0, _ => by simp [tk]
  | _ + 1, [] => rfl
  | n + 1, x :: l => by
    show x :: tk n l = _
    rw [tk_take n l]
    rfl
theorem dr_drop {α : Type} : ∀ (n : Nat) (l : List α), dr n l = l.drop n
  | 0, _ => rfl
  | _ + 1, [] => rfl
  | n + 1, _ :: l => dr_drop n l
theorem list_parts {α : Type} {l m : List α} {n : Nat} (h1 : l.take n = tk n m) (h2 : l.drop n = dr n m) : l = m := by
  rw [tk_take] at h1
  rw [dr_drop] at h2
  rw [← List.take_append_drop n l, h1, h2, List.take_append_drop]
theorem all_parts {α : Type} {f : α → Bool} {n : Nat} {l : List α} (h1 : R.allR (tk n l) f = true) (h2 : R.allR (dr n l) f = true) : R.allR l f = true := by
  rw [← R.allR_eq] at h1 h2 ⊢
  rw [tk_take, List.all_eq_true] at h1
  rw [dr_drop, List.all_eq_true] at h2
  rw [List.all_eq_true]
  intro x hx
  rw [← List.take_append_drop n l] at hx
  rcases List.mem_append.mp hx with h | h
  · exact h1 x h
  · exact h2 x h
def stmP {α β γ δ ε : Type} {o : α → β → Option γ} {f : α → β → γ → δ} {x : α → β → δ} (pr : δ → ε) (y : ε) (_ : ∀ (_ : False) (w : α) (os : β), (o w os).map (f w os) = some (x w os)) : Prop := ∀ w os, (o w os).map (fun s => pr (f w os s)) = some y
def stmS {α β ε : Type} {o : α → β → Option SharedT} {δ : Type} {f : α → β → SharedT → δ} {x : α → β → δ} (pr : Shared → ε) (y : ε) (_ : ∀ (_ : False) (w : α) (os : β), (o w os).map (f w os) = some (x w os)) : Prop := ∀ w os, (o w os).map (fun s => pr s.abs) = some y
def stm {α β : Type} {T : α → β → Prop} (_ : ∀ (_ : False) (w : α) (os : β), T w os) : Prop := ∀ w os, T w os
section
variable (V : Program) (mods : List PySem.Str) (Xt : Shared → Bool) (s : Shared)
noncomputable def lkA : Bool := Fast.tw10880121769531294198 s.heap (Fast.tw821141287760084731 V []) (R.mapR (fun x => x.name) (Fast.tw3399658132070893891 V)) (R.mapR (fun x => x.1) (Fast.tw7409074990110511671 V)) (R.mapR (fun x => x.name) (Fast.tw13664370479719496447 V (Fast.tw821141287760084731 V [])))
noncomputable def lkB (lo : List PySem.Str) : Bool := Fast.tw10880121769531294198 s.heap lo (R.mapR (fun x => x.name) (Fast.tw3399658132070893891 V)) (R.mapR (fun x => x.1) (Fast.tw7409074990110511671 V)) (R.mapR (fun x => x.name) (Fast.tw13664370479719496447 V lo))
theorem lkA_is : lkA V s = lkB V s (Fast.tw821141287760084731 V []) := rfl
theorem c3 : (HeadRun.seenQ V [] mods Xt s).2.2.1 = (lkA V s && Fast.tw14722251495701143533 s.heap mods && s.heap.isNs mainGlobals && s.heap.isNs builtinsNs && Fast.tw10994771534591457954 V s.heap && Xt s && (s.gens.size == 0)) := rfl
theorem c4 : (HeadRun.seenQ V [] mods Xt s).2.2.2.1 = ((R.allR (Fast.tw3399658132070893891 V) fun d => Fast.tw5930804224584009831 s.heap d.name) && Fast.tw5244371056499926238 s.heap && Fast.tw2578726214315757710 V s.heap && (!Fast.tw2458874890965802552 V || Fast.tw9649274521512697073 s.heap)) := rfl
theorem c6 : (HeadRun.seenQ V [] mods Xt s).2.2.2.2.2.1 = R.mapR (fun c => Fast.tw15717526521509864196 s.heap (Fast.tw12515865711710729776 c)) (Fast.tw210736558901404530 V (Fast.tw821141287760084731 V [])) := rfl
end
def om {α β : Type} (f : α → β) : Option α → Option β
  | some a => some (f a)
  | none => none
noncomputable def cls (V : Program) (n : PySem.Str) : Option ClsRec := Fast.tw17968749316262605751 V n
noncomputable def shQ (s : Shared) (c : ClsRec) : Option PlainShape := Fast.tw15717526521509864196 s.heap (Fast.tw12515865711710729776 c)
def shG (c : ClsRec) : Option PlainShape := some c.withCmp.plainShape
theorem two_of {α : Type} {l : List α} {x y : Option α} (h : l.map some = [x, y]) : ∃ a b, l = [a, b] ∧ x = some a ∧ y = some b := by
  match l, h with
  | [a, b], h =>
    injection h with h1 h2
    injection h2 with h2 _
    exact ⟨a, b, rfl, h1.symm, h2.symm⟩
theorem split3 {α β γ δ : Type _} {o : Option α} {f : α → β} {g : α → γ} {h : α → δ} {b : β} {c : γ} {d : δ} (h1 : o.map f = some b) (h2 : o.map g = some c) (h3 : o.map h = some d) : o.map (fun x => (f x, g x, h x)) = some (b, c, d) := by
  cases o with
  | none => cases h1
  | some x =>
    cases h1
    cases h2
    cases h3
    rfl
section
variable {α β γ : Type} {o : Option α} {f : α → β} {g : α → γ} {x : β} {y : γ}
theorem mapF (h : o.map (fun s => (f s, g s)) = some (x, y)) : o.map f = some x := by
  cases o with
  | none => cases h
  | some s => exact congrArg some (congrArg Prod.fst (Option.some.inj h))
theorem mapS (h : o.map (fun s => (f s, g s)) = some (x, y)) : o.map g = some y := by
  cases o with
  | none => cases h
  | some s => exact congrArg some (congrArg Prod.snd (Option.some.inj h))
end
def stm2 {α β δ ε : Type} {γ : Type} {o : α → β → Option γ} {f : α → β → γ → δ} {g : α → β → γ → ε} {x : α → β → δ} {y : α → β → ε} (_ : ∀ (_ : False) (w : α) (os : β), (o w os).map (f w os) = some (x w os)) (_ : ∀ (_ : False) (w : α) (os : β), (o w os).map (g w os) = some (y w os)) : Prop := ∀ w os, (o w os).map (fun s => (f w os s, g w os s)) = some (x w os, y w os)
section
variable {V : Program} {mods : List PySem.Str} {Xt : Shared → Bool} {o : Option SharedT}
noncomputable abbrev sQ (V : Program) (mods : List PySem.Str) (Xt : Shared → Bool) (s : SharedT) := HeadRun.seenQ V [] mods Xt s.abs
theorem asmT {t : Seen × (Option PySem.Str × List (PySem.Str × Value)) × Bool × Bool × (List (Option FnShape) × Bool) × List (Option PlainShape) × List (Option (PlainShape × Bool)) × (List (Option FnShape) × Bool) × List (Option (List (Option FnShape) × Bool) × Option (PlainShape × Bool))}
    (e1 : t.1.defs = (recsOf V).map fun d => some d.shape) (p1b : (t.1.ownsOk, t.1.names, t.1.globalsOk, t.1.builtinsOk, t.1.noLimit, t.1.gens) = (true, [], true, true, true, 0)) (e3 : t.2.2.1 = true) (e4 : t.2.2.2.1 = true) (s5 : t.2.2.2.2.1 = pinGoodD (drecsOf V)) (e6 : t.2.2.2.2.2.1 = plainGoodE V (looseW V [])) (q8a : t.2.2.2.2.2.2.2.1.1 = (wdefsOf V).map fun d => some d.1.shape)
    (q8b : (t.2.2.2.2.2.2.2.1.2, t.2.1, t.2.2.2.2.2.2.1, t.2.2.2.2.2.2.2.2) = (true, bltViewBooted, plainGoodD V [], clsGoodW V [])) : t = openGood V [] := by
  obtain ⟨⟨x1, x2, x3, x4, x5, x6, x7⟩, t2, t3, t4, t5, t6, t7, ⟨t8, t8'⟩, t9⟩ := t
  simp only [Prod.mk.injEq] at p1b q8b
  obtain ⟨rfl, rfl, rfl, rfl, rfl, rfl⟩ := p1b
  obtain ⟨rfl, rfl, rfl, rfl⟩ := q8b
  have e3 : t3 = true := e3
  have e4 : t4 = true := e4
  have s5 : t5 = _ := s5
  have e6 : t6 = _ := e6
  have q8a : t8 = _ := q8a
  have e1 : x1 = _ := e1
  rw [e3, e4, s5, e6, q8a, e1]
  rfl
theorem asm (r1a : o.map (fun s => List.take 40 (sQ V mods Xt s).1.defs) = some (tk 40 ((recsOf V).map fun d => some d.shape))) (r1b : o.map (fun s => List.take 30 (List.drop 40 (sQ V mods Xt s).1.defs)) = some (tk 30 (dr 40 ((recsOf V).map fun d => some d.shape)))) (r1c : o.map (fun s => List.drop 70 (sQ V mods Xt s).1.defs) = some (dr 70 ((recsOf V).map fun d => some d.shape)))
    (p1b : o.map (fun s => ((sQ V mods Xt s).1.ownsOk, (sQ V mods Xt s).1.names, (sQ V mods Xt s).1.globalsOk, (sQ V mods Xt s).1.builtinsOk, (sQ V mods Xt s).1.noLimit, (sQ V mods Xt s).1.gens)) = some (true, [], true, true, true, 0))
    (p3a : o.map (fun s => lkA V s.abs) = some true) (r3c : o.map (fun s => (Fast.tw14722251495701143533 s.abs.heap mods, s.abs.heap.isNs mainGlobals, s.abs.heap.isNs builtinsNs, Fast.tw10994771534591457954 V s.abs.heap, Xt s.abs, (s.abs.gens.size == 0))) = some (true, true, true, true, true, true))
    (r4a : o.map (fun s => R.allR (tk 40 (Fast.tw3399658132070893891 V)) fun d => Fast.tw5930804224584009831 s.abs.heap d.name) = some true) (r4b : o.map (fun s => R.allR (dr 40 (Fast.tw3399658132070893891 V)) fun d => Fast.tw5930804224584009831 s.abs.heap d.name) = some true)
    (p4b : o.map (fun s => Fast.tw5244371056499926238 s.abs.heap && Fast.tw2578726214315757710 V s.abs.heap && (!Fast.tw2458874890965802552 V || Fast.tw9649274521512697073 s.abs.heap)) = some true)
    (s5 : o.map (fun s => (sQ V mods Xt s).2.2.2.2.1) = some (pinGoodD (drecsOf V)))
    {oA oB : Option ClsRec} (l6 : (Fast.tw210736558901404530 V (Fast.tw821141287760084731 V [])).map some = [oA, oB]) (q6 : o.map (fun s => (oA.map (shQ s.abs), oB.map (shQ s.abs))) = some (om shG oA, om shG oB))
    (q8a : o.map (fun s => (sQ V mods Xt s).2.2.2.2.2.2.2.1.1) = some ((wdefsOf V).map fun d => some d.1.shape))
    (q8b : o.map (fun s => ((sQ V mods Xt s).2.1, (sQ V mods Xt s).2.2.2.2.2.2.1, (sQ V mods Xt s).2.2.2.2.2.2.2.2)) = some (bltViewBooted, plainGoodD V [], clsGoodW V [])) (q8c : o.map (fun s => (sQ V mods Xt s).2.2.2.2.2.2.2.1.2) = some true) :
    o.map (fun s => sQ V mods Xt s) = some (openGood V []) := by
  cases o with
  | none => cases r1a
  | some s =>
    have r1a := Option.some.inj r1a
    have r1b := Option.some.inj r1b
    have p1b := Option.some.inj p1b
    have p3a := Option.some.inj p3a
    have r3c := Option.some.inj r3c
    have r4a := Option.some.inj r4a
    have r4b := Option.some.inj r4b
    have p4b := Option.some.inj p4b
    have s5 := Option.some.inj s5
    have q6 := Option.some.inj q6
    have r1c := Option.some.inj r1c
    have q8c := Option.some.inj q8c
    have q8a := Option.some.inj q8a
    have q8b := Option.some.inj q8b
    have t3 := c3 V mods Xt s.abs
    have t4 := c4 V mods Xt s.abs
    show some (sQ V mods Xt s) = some (openGood V [])
    refine congrArg some ?_
    have e3 : (sQ V mods Xt s).2.2.1 = true := by
      simp only [Prod.mk.injEq] at r3c
      obtain ⟨h1, h2, h3, h4, h5, h6⟩ := r3c
      refine t3.trans ?_
      have p3a : lkA V s.abs = true := p3a
      rw [p3a, h1, h2, h3, h4, h5, h6]
      rfl
    have e4 : (sQ V mods Xt s).2.2.2.1 = true := by
      refine t4.trans ?_
      have h1 : (R.allR (Fast.tw3399658132070893891 V) fun d => Fast.tw5930804224584009831 s.abs.heap d.name) = true := all_parts r4a r4b
      rw [h1, Bool.true_and]
      exact p4b
    have e6 : (sQ V mods Xt s).2.2.2.2.2.1 = plainGoodE V (looseW V []) := by
      have g1 : plainGoodE V (looseW V []) = List.map shG (Fast.tw210736558901404530 V (Fast.tw821141287760084731 V [])) := by
        show List.map shG (plainsOf V (looseW V [])) = _
        rw [Fast.te210736558901404530, Fast.te821141287760084731]
      rw [g1]
      refine (c6 V mods Xt s.abs).trans ?_
      obtain ⟨a, b, e, rfl, rfl⟩ := two_of l6
      rw [e]
      have q6 : (some (shQ s.abs a), some (shQ s.abs b)) = (some (shG a), some (shG b)) := q6
      rw [Prod.mk.injEq] at q6
      show [shQ s.abs a, shQ s.abs b] = [shG a, shG b]
      rw [Option.some.inj q6.1, Option.some.inj q6.2]
    have e1 : (sQ V mods Xt s).1.defs = (recsOf V).map fun d => some d.shape := list_parts (n := 40) r1a (list_parts (n := 30) r1b (by
      have h : ∀ {α : Type} (l : List α), dr 30 (dr 40 l) = dr 70 l := fun l => by rw [dr_drop, dr_drop, dr_drop, List.drop_drop]
      rw [h, List.drop_drop]
      exact r1c))
    exact asmT e1 p1b e3 e4 s5 e6 q8a (by
      have q8b : ((sQ V mods Xt s).2.1, (sQ V mods Xt s).2.2.2.2.2.2.1, (sQ V mods Xt s).2.2.2.2.2.2.2.2) = (bltViewBooted, plainGoodD V [], clsGoodW V []) := q8b
      have q8c : (sQ V mods Xt s).2.2.2.2.2.2.2.1.2 = true := q8c
      rw [q8c, q8b])
theorem asm2 {oA oB : Option ClsRec} {lo : List PySem.Str} (x1 : Fast.tw821141287760084731 V [] = lo)
    (M1 : o.map (fun s => ((oA.map (shQ s.abs), oB.map (shQ s.abs)), (Fast.tw14722251495701143533 s.abs.heap mods, s.abs.heap.isNs mainGlobals, s.abs.heap.isNs builtinsNs, Fast.tw10994771534591457954 V s.abs.heap, Xt s.abs, (s.abs.gens.size == 0)), (Fast.tw5244371056499926238 s.abs.heap && Fast.tw2578726214315757710 V s.abs.heap && (!Fast.tw2458874890965802552 V || Fast.tw9649274521512697073 s.abs.heap)))) = some ((om shG oA, om shG oB), (true, true, true, true, true, true), true))
    (r4a : o.map (fun s => R.allR (tk 40 (Fast.tw3399658132070893891 V)) fun d => Fast.tw5930804224584009831 s.abs.heap d.name) = some true)
    (M2 : o.map (fun s => (List.take 40 (sQ V mods Xt s).1.defs, ((sQ V mods Xt s).1.ownsOk, (sQ V mods Xt s).1.names, (sQ V mods Xt s).1.globalsOk, (sQ V mods Xt s).1.builtinsOk, (sQ V mods Xt s).1.noLimit, (sQ V mods Xt s).1.gens), ((sQ V mods Xt s).2.1, (sQ V mods Xt s).2.2.2.2.2.2.1, (sQ V mods Xt s).2.2.2.2.2.2.2.2))) = some (tk 40 ((recsOf V).map fun d => some d.shape), (true, [], true, true, true, 0), (bltViewBooted, plainGoodD V [], clsGoodW V [])))
    (r1b : o.map (fun s => List.take 30 (List.drop 40 (sQ V mods Xt s).1.defs)) = some (tk 30 (dr 40 ((recsOf V).map fun d => some d.shape)))) (r1c : o.map (fun s => List.take 10 (List.drop 70 (sQ V mods Xt s).1.defs)) = some (tk 10 (dr 70 ((recsOf V).map fun d => some d.shape)))) (r1d : o.map (fun s => List.drop 80 (sQ V mods Xt s).1.defs) = some (dr 80 ((recsOf V).map fun d => some d.shape)))
    (p3a : o.map (fun s => lkB V s.abs lo) = some true) (r4b : o.map (fun s => R.allR (dr 40 (Fast.tw3399658132070893891 V)) fun d => Fast.tw5930804224584009831 s.abs.heap d.name) = some true)
    (s5 : o.map (fun s => (sQ V mods Xt s).2.2.2.2.1) = some (pinGoodD (drecsOf V))) (l6 : (Fast.tw210736558901404530 V lo).map some = [oA, oB])
    (q8a : o.map (fun s => (sQ V mods Xt s).2.2.2.2.2.2.2.1.1) = some ((wdefsOf V).map fun d => some d.1.shape)) (q8c : o.map (fun s => (sQ V mods Xt s).2.2.2.2.2.2.2.1.2) = some true) : o.map (fun s => sQ V mods Xt s) = some (openGood V []) := by
  subst x1
  have r1e : o.map (fun s => List.drop 70 (sQ V mods Xt s).1.defs) = some (dr 70 ((recsOf V).map fun d => some d.shape)) := by
    cases o with
    | none => cases r1c
    | some s =>
      have r1c := Option.some.inj r1c
      have r1d := Option.some.inj r1d
      refine congrArg some (list_parts (n := 10) r1c ?_)
      have h : ∀ {α : Type} (l : List α), dr 10 (dr 70 l) = dr 80 l := fun l => by rw [dr_drop, dr_drop, dr_drop, List.drop_drop]
      rw [h, List.drop_drop]
      exact r1d
  exact asm (mapF M2) r1b r1e (mapF (mapS M2)) p3a (mapF (mapS M1)) r4a r4b (mapS (mapS M1)) s5 l6 (mapF M1) q8a (mapS (mapS M2)) q8c
end
end K50

section
open Lean in
local macro_rules
  | `(tactic| kernel_rfl%$tk) => do
    if tk.getAtomVal == "kr0" then Macro.throwUnsupported
    let inner : TSyntax `tactic := ⟨Syntax.node .none ``tacticKernel_rfl #[Syntax.atom .none "kr0"]⟩
    `(tactic| first | (refine K50.split3 ?h1 ?h2 ?h3; (case h1 => as_aux_lemma => exact False.elim (by assumption)); (case h2 => as_aux_lemma => exact False.elim (by assumption)); (case h3 => as_aux_lemma => exact False.elim (by assumption))) | $inner:tactic)
open PySem PySem.W PyProof.Rows Dx in
set_option maxRecDepth 100000 in
set_option maxHeartbeats 0 in
theorem K50.pre (hF : False) : PySem.Challenge.rw_treestacks_k50_edits_at_a_desk.Holds := by
  w_on; o_law; k_headL; (case hw => w_witness2)
  k_fill
  refine K50.walk (l := PySem.Challenge.rw_treestacks_k50_edits_at_a_desk) rfl rfl (fun w h Y => PySem.W.kIn_of Y) ?F
  case F =>
    intro w mg fa h KX G hmg
    refine' K50.all_mk KX G hmg ?e0 ?e1 ?e2 ?e3 ?e4 ?e5 ?g ?z_len ?z_abs ?z_int ?z_str ?z_bool ?z_tuple ?z_list ?z_all ?z_isinstance ?z_range ?z_sum ?z_any ?z_max ?z_zip ?k_MOST_RULES_AT_DESK ?k_MOST_STEPS ?k_NOT_LIVE ?k_ENDLESS ?k_MOST_LETTERS ?k_MOST_RULES ?k_MOST_KINDS ?w_WORD ?w_ONE ?w_TWO ?pc ?pl ?d_is_integer ?d_is_between ?d_is_word ?d_is_rule ?d_is_rules ?d_steps_of ?d_kinds_behind ?d_endless_kind ?d_part_kinds ?d_is_live ?d_live_kinds ?d_live_rules ?d_live_steps ?d_kinds_in_order ?d_words_by ?d_lengths ?d_law_box ?d_law_take ?d_law_pick ?d_law_is_due ?d_law_unary ?d_law_back_kind ?d_law_shuffled ?d_law_grammar ?d_law_made ?d_same_state ?d_law_now ?d_law_do ?d_law_deed ?d_law_drawn_rule ?d_law_edit ?d_law_edited ?d_law_are_refused ?d_law_is_walked_back ?d_looked_at ?d_alike ?d_law ?m__become ?m__do ?m_undo ?m_redo ?m_report ?m__edit ?m_put ?m_turn ?m_take ?dc ?dk ?pe ?tb
    (case e0 => (refine' xfact_mk ?aC ?xL ?hbm ?sa ?ga ?gg ?nb ?a1 ?t1 ?l1 ?c1 ?k1 ?kC ?eC ?tC ?hC ?iC ?ca ?sg ?tk ?mo; (case aC => k_is); (case xL => k_is); (case hbm => decide +kernel); (case sa => k_is); (case ga => k_is); (case gg => k_is); (case nb => k_is); (case a1 => k_is); (case t1 => k_is); (case l1 => k_is); (case c1 => k_is); (case k1 => k_is); (case kC => k_is); (case eC => k_is); (case tC => k_is); (case hC => k_is); (case iC => k_is); (case ca => k_is); (case sg => k_is); (case tk => k_is); (case mo => k_is)))
    (case e1 => (refine' xfact_mk ?aC ?xL ?hbm ?sa ?ga ?gg ?nb ?a1 ?t1 ?l1 ?c1 ?k1 ?kC ?eC ?tC ?hC ?iC ?ca ?sg ?tk ?mo; (case aC => k_is); (case xL => k_is); (case hbm => decide +kernel); (case sa => k_is); (case ga => k_is); (case gg => k_is); (case nb => k_is); (case a1 => k_is); (case t1 => k_is); (case l1 => k_is); (case c1 => k_is); (case k1 => k_is); (case kC => k_is); (case eC => k_is); (case tC => k_is); (case hC => k_is); (case iC => k_is); (case ca => k_is); (case sg => k_is); (case tk => k_is); (case mo => k_is)))
    (case e2 => (refine' xfact_mk ?aC ?xL ?hbm ?sa ?ga ?gg ?nb ?a1 ?t1 ?l1 ?c1 ?k1 ?kC ?eC ?tC ?hC ?iC ?ca ?sg ?tk ?mo; (case aC => k_is); (case xL => k_is); (case hbm => decide +kernel); (case sa => k_is); (case ga => k_is); (case gg => k_is); (case nb => k_is); (case a1 => k_is); (case t1 => k_is); (case l1 => k_is); (case c1 => k_is); (case k1 => k_is); (case kC => k_is); (case eC => k_is); (case tC => k_is); (case hC => k_is); (case iC => k_is); (case ca => k_is); (case sg => k_is); (case tk => k_is); (case mo => k_is)))
    (case e3 => (refine' xfact_mk ?aC ?xL ?hbm ?sa ?ga ?gg ?nb ?a1 ?t1 ?l1 ?c1 ?k1 ?kC ?eC ?tC ?hC ?iC ?ca ?sg ?tk ?mo; (case aC => k_is); (case xL => k_is); (case hbm => decide +kernel); (case sa => k_is); (case ga => k_is); (case gg => k_is); (case nb => k_is); (case a1 => k_is); (case t1 => k_is); (case l1 => k_is); (case c1 => k_is); (case k1 => k_is); (case kC => k_is); (case eC => k_is); (case tC => k_is); (case hC => k_is); (case iC => k_is); (case ca => k_is); (case sg => k_is); (case tk => k_is); (case mo => k_is)))
    (case e4 => (refine' xfact_mk ?aC ?xL ?hbm ?sa ?ga ?gg ?nb ?a1 ?t1 ?l1 ?c1 ?k1 ?kC ?eC ?tC ?hC ?iC ?ca ?sg ?tk ?mo; (case aC => k_is); (case xL => k_is); (case hbm => decide +kernel); (case sa => k_is); (case ga => k_is); (case gg => k_is); (case nb => k_is); (case a1 => k_is); (case t1 => k_is); (case l1 => k_is); (case c1 => k_is); (case k1 => k_is); (case kC => k_is); (case eC => k_is); (case tC => k_is); (case hC => k_is); (case iC => k_is); (case ca => k_is); (case sg => k_is); (case tk => k_is); (case mo => k_is)))
    (case e5 => (refine' xfact_mk ?aC ?xL ?hbm ?sa ?ga ?gg ?nb ?a1 ?t1 ?l1 ?c1 ?k1 ?kC ?eC ?tC ?hC ?iC ?ca ?sg ?tk ?mo; (case aC => k_is); (case xL => k_is); (case hbm => decide +kernel); (case sa => k_is); (case ga => k_is); (case gg => k_is); (case nb => k_is); (case a1 => k_is); (case t1 => k_is); (case l1 => k_is); (case c1 => k_is); (case k1 => k_is); (case kC => k_is); (case eC => k_is); (case tC => k_is); (case hC => k_is); (case iC => k_is); (case ca => k_is); (case sg => k_is); (case tk => k_is); (case mo => k_is)))
    (case g => (refine' gfact_mk ?a ?r1 ?r2 ?gi ?eC ?hC ?tC; (case a => k_is); (case r1 => k_is); (case r2 => k_is); (case gi => k_is); (case eC => k_is); (case hC => k_is); (case tC => k_is)))
    (case z_len => k_is)
    (case z_abs => k_is)
    (case z_int => k_is)
    (case z_str => k_is)
    (case z_bool => k_is)
    (case z_tuple => k_is)
    (case z_list => k_is)
    (case z_all => k_is)
    (case z_isinstance => k_is)
    (case z_range => k_is)
    (case z_sum => k_is)
    (case z_any => k_is)
    (case z_max => k_is)
    (case z_zip => k_is)
    (case k_MOST_RULES_AT_DESK => k_is)
    (case k_MOST_STEPS => k_is)
    (case k_NOT_LIVE => k_is)
    (case k_ENDLESS => k_is)
    (case k_MOST_LETTERS => k_is)
    (case k_MOST_RULES => k_is)
    (case k_MOST_KINDS => k_is)
    (case w_WORD => (refine' K50.tfact2 ?h ?l (by decide) (by decide); (case h => k_is); (case l => k_is)))
    (case w_ONE => (refine' K50.tfact3 ?h ?l (by decide) (by decide) (by decide); (case h => k_is); (case l => k_is)))
    (case w_TWO => (refine' K50.tfact3 ?h ?l (by decide) (by decide) (by decide); (case h => k_is); (case l => k_is)))
    (case pc => (refine' cfact_mk ?a ?mk ?a1 ?i1 ?kc ?l1 ?c1 ?k1; (case a => k_is); (case mk => k_is); (case a1 => k_is); (case i1 => k_is); (case kc => k_is); (case l1 => k_is); (case c1 => k_is); (case k1 => k_is)))
    (case pl => (refine' K50.pfact_mk ?pg ?hd ?po ?sa ?nk ?nr ?ca ?sg ?tk ?mo; (case pg => k_is); (case hd => k_is); (case po => k_is); (case sa => k_is); (case nk => k_is); (case nr => k_is); (case ca => k_is); (case sg => k_is); (case tk => k_is); (case mo => k_is)))
    (case d_is_integer => (refine' dfact_mk ?a ?l1 ?c1 ?k1; (case a => k_is); (case l1 => k_is); (case c1 => k_is); (case k1 => k_is)))
    (case d_is_between => (refine' dfact_mk ?a ?l1 ?c1 ?k1; (case a => k_is); (case l1 => k_is); (case c1 => k_is); (case k1 => k_is)))
    (case d_is_word => (refine' dfact_mk ?a ?l1 ?c1 ?k1; (case a => k_is); (case l1 => k_is); (case c1 => k_is); (case k1 => k_is)))
    (case d_is_rule => (refine' dfact_mk ?a ?l1 ?c1 ?k1; (case a => k_is); (case l1 => k_is); (case c1 => k_is); (case k1 => k_is)))
    (case d_is_rules => (refine' dfact_mk ?a ?l1 ?c1 ?k1; (case a => k_is); (case l1 => k_is); (case c1 => k_is); (case k1 => k_is)))
    (case d_steps_of => (refine' dfact_mk ?a ?l1 ?c1 ?k1; (case a => k_is); (case l1 => k_is); (case c1 => k_is); (case k1 => k_is)))
    (case d_kinds_behind => (refine' dfact_mk ?a ?l1 ?c1 ?k1; (case a => k_is); (case l1 => k_is); (case c1 => k_is); (case k1 => k_is)))
    (case d_endless_kind => (refine' dfact_mk ?a ?l1 ?c1 ?k1; (case a => k_is); (case l1 => k_is); (case c1 => k_is); (case k1 => k_is)))
    (case d_part_kinds => (refine' dfact_mk ?a ?l1 ?c1 ?k1; (case a => k_is); (case l1 => k_is); (case c1 => k_is); (case k1 => k_is)))
    (case d_is_live => (refine' dfact_mk ?a ?l1 ?c1 ?k1; (case a => k_is); (case l1 => k_is); (case c1 => k_is); (case k1 => k_is)))
    (case d_live_kinds => (refine' dfact_mk ?a ?l1 ?c1 ?k1; (case a => k_is); (case l1 => k_is); (case c1 => k_is); (case k1 => k_is)))
    (case d_live_rules => (refine' dfact_mk ?a ?l1 ?c1 ?k1; (case a => k_is); (case l1 => k_is); (case c1 => k_is); (case k1 => k_is)))
    (case d_live_steps => (refine' dfact_mk ?a ?l1 ?c1 ?k1; (case a => k_is); (case l1 => k_is); (case c1 => k_is); (case k1 => k_is)))
    (case d_kinds_in_order => (refine' dfact_mk ?a ?l1 ?c1 ?k1; (case a => k_is); (case l1 => k_is); (case c1 => k_is); (case k1 => k_is)))
    (case d_words_by => (refine' dfact_mk ?a ?l1 ?c1 ?k1; (case a => k_is); (case l1 => k_is); (case c1 => k_is); (case k1 => k_is)))
    (case d_lengths => (refine' dfact_mk ?a ?l1 ?c1 ?k1; (case a => k_is); (case l1 => k_is); (case c1 => k_is); (case k1 => k_is)))
    (case d_law_box => (refine' dfact_mk ?a ?l1 ?c1 ?k1; (case a => k_is); (case l1 => k_is); (case c1 => k_is); (case k1 => k_is)))
    (case d_law_take => (refine' dfact_mk ?a ?l1 ?c1 ?k1; (case a => k_is); (case l1 => k_is); (case c1 => k_is); (case k1 => k_is)))
    (case d_law_pick => (refine' dfact_mk ?a ?l1 ?c1 ?k1; (case a => k_is); (case l1 => k_is); (case c1 => k_is); (case k1 => k_is)))
    (case d_law_is_due => (refine' dfact_mk ?a ?l1 ?c1 ?k1; (case a => k_is); (case l1 => k_is); (case c1 => k_is); (case k1 => k_is)))
    (case d_law_unary => (refine' dfact_mk ?a ?l1 ?c1 ?k1; (case a => k_is); (case l1 => k_is); (case c1 => k_is); (case k1 => k_is)))
    (case d_law_back_kind => (refine' dfact_mk ?a ?l1 ?c1 ?k1; (case a => k_is); (case l1 => k_is); (case c1 => k_is); (case k1 => k_is)))
    (case d_law_shuffled => (refine' dfact_mk ?a ?l1 ?c1 ?k1; (case a => k_is); (case l1 => k_is); (case c1 => k_is); (case k1 => k_is)))
    (case d_law_grammar => (refine' dfact_mk ?a ?l1 ?c1 ?k1; (case a => k_is); (case l1 => k_is); (case c1 => k_is); (case k1 => k_is)))
    (case d_law_made => (refine' dfact_mk ?a ?l1 ?c1 ?k1; (case a => k_is); (case l1 => k_is); (case c1 => k_is); (case k1 => k_is)))
    (case d_same_state => (refine' dfact_mk ?a ?l1 ?c1 ?k1; (case a => k_is); (case l1 => k_is); (case c1 => k_is); (case k1 => k_is)))
    (case d_law_now => (refine' dfact_mk ?a ?l1 ?c1 ?k1; (case a => k_is); (case l1 => k_is); (case c1 => k_is); (case k1 => k_is)))
    (case d_law_do => (refine' dfact_mk ?a ?l1 ?c1 ?k1; (case a => k_is); (case l1 => k_is); (case c1 => k_is); (case k1 => k_is)))
    (case d_law_deed => (refine' dfact_mk ?a ?l1 ?c1 ?k1; (case a => k_is); (case l1 => k_is); (case c1 => k_is); (case k1 => k_is)))
    (case d_law_drawn_rule => (refine' dfact_mk ?a ?l1 ?c1 ?k1; (case a => k_is); (case l1 => k_is); (case c1 => k_is); (case k1 => k_is)))
    (case d_law_edit => (refine' dfact_mk ?a ?l1 ?c1 ?k1; (case a => k_is); (case l1 => k_is); (case c1 => k_is); (case k1 => k_is)))
    (case d_law_edited => (refine' dfact_mk ?a ?l1 ?c1 ?k1; (case a => k_is); (case l1 => k_is); (case c1 => k_is); (case k1 => k_is)))
    (case d_law_are_refused => (refine' dfact_mk ?a ?l1 ?c1 ?k1; (case a => k_is); (case l1 => k_is); (case c1 => k_is); (case k1 => k_is)))
    (case d_law_is_walked_back => (refine' dfact_mk ?a ?l1 ?c1 ?k1; (case a => k_is); (case l1 => k_is); (case c1 => k_is); (case k1 => k_is)))
    (case d_looked_at => (refine' dfact_mk ?a ?l1 ?c1 ?k1; (case a => k_is); (case l1 => k_is); (case c1 => k_is); (case k1 => k_is)))
    (case d_alike => (refine' dfact_mk ?a ?l1 ?c1 ?k1; (case a => k_is); (case l1 => k_is); (case c1 => k_is); (case k1 => k_is)))
    (case d_law => (refine' dfact_mk ?a ?l1 ?c1 ?k1; (case a => k_is); (case l1 => k_is); (case c1 => k_is); (case k1 => k_is)))
    (case dc => (refine' cfact_mk ?a ?mk ?a1 ?i1 ?kc ?l1 ?c1 ?k1; (case a => k_is); (case mk => k_is); (case a1 => k_is); (case i1 => k_is); (case kc => k_is); (case l1 => k_is); (case c1 => k_is); (case k1 => k_is)))
    (case dk => (refine' K50.kfact_mk ?pg ?hd ?po ?sa ?n1 ?n2 ?n3 ?n4 ?n5 ?n6 ?n7 ?eqD ?moD ?neP; (case pg => k_is); (case hd => k_is); (case po => k_is); (case sa => k_is); (case n1 => k_is); (case n2 => k_is); (case n3 => k_is); (case n4 => k_is); (case n5 => k_is); (case n6 => k_is); (case n7 => k_is); (case eqD => k_is); (case moD => k_is); (case neP => k_is)))
    (case pe => (refine' K50.mfact_mk ?a ?i ?l1 ?c1 ?k1; (case a => k_is); (case i => k_is); (case l1 => k_is); (case c1 => k_is); (case k1 => k_is)))
    (case m__become => (refine' K50.mfact_mk ?a ?i ?l1 ?c1 ?k1; (case a => k_is); (case i => k_is); (case l1 => k_is); (case c1 => k_is); (case k1 => k_is)))
    (case m__do => (refine' K50.mfact_mk ?a ?i ?l1 ?c1 ?k1; (case a => k_is); (case i => k_is); (case l1 => k_is); (case c1 => k_is); (case k1 => k_is)))
    (case m_undo => (refine' K50.mfact_mk ?a ?i ?l1 ?c1 ?k1; (case a => k_is); (case i => k_is); (case l1 => k_is); (case c1 => k_is); (case k1 => k_is)))
    (case m_redo => (refine' K50.mfact_mk ?a ?i ?l1 ?c1 ?k1; (case a => k_is); (case i => k_is); (case l1 => k_is); (case c1 => k_is); (case k1 => k_is)))
    (case m_report => (refine' K50.mfact_mk ?a ?i ?l1 ?c1 ?k1; (case a => k_is); (case i => k_is); (case l1 => k_is); (case c1 => k_is); (case k1 => k_is)))
    (case m__edit => (refine' K50.mfact_mk ?a ?i ?l1 ?c1 ?k1; (case a => k_is); (case i => k_is); (case l1 => k_is); (case c1 => k_is); (case k1 => k_is)))
    (case m_put => (refine' K50.mfact_mk ?a ?i ?l1 ?c1 ?k1; (case a => k_is); (case i => k_is); (case l1 => k_is); (case c1 => k_is); (case k1 => k_is)))
    (case m_turn => (refine' K50.mfact_mk ?a ?i ?l1 ?c1 ?k1; (case a => k_is); (case i => k_is); (case l1 => k_is); (case c1 => k_is); (case k1 => k_is)))
    (case m_take => (refine' K50.mfact_mk ?a ?i ?l1 ?c1 ?k1; (case a => k_is); (case i => k_is); (case l1 => k_is); (case c1 => k_is); (case k1 => k_is)))
    (case tb => kernel_rfl)
end
set_option maxHeartbeats 0 in
open PySem PySem.W PyProof.Rows in
theorem K50.look13 : K50.stm2 K50.pre._proof_42 K50.pre._proof_44 := by
  intro w os
  kernel_rfl
set_option maxHeartbeats 0 in
open PySem PySem.W PyProof.Rows in
theorem K50.M1 : K50.stmS (fun s => ((Option.map (K50.shQ s) (K50.cls K50.pre.view_39 "Pairs"), Option.map (K50.shQ s) (K50.cls K50.pre.view_39 "Desk")), (Fast.tw14722251495701143533 s.heap (importedModules PySem.Challenge.rw_treestacks_k50_edits_at_a_desk.row.prog.main.body), s.heap.isNs mainGlobals, s.heap.isNs builtinsNs, Fast.tw10994771534591457954 K50.pre.view_39 s.heap, (xlAt K50.pre.view_39 [] s && recOk PySem.Challenge.rw_treestacks_k50_edits_at_a_desk.row.records s), (s.gens.size == 0)), (Fast.tw5244371056499926238 s.heap && Fast.tw2578726214315757710 K50.pre.view_39 s.heap && (!Fast.tw2458874890965802552 K50.pre.view_39 || Fast.tw9649274521512697073 s.heap)))) ((K50.om K50.shG (K50.cls K50.pre.view_39 "Pairs"), K50.om K50.shG (K50.cls K50.pre.view_39 "Desk")), (true, true, true, true, true, true), true) K50.pre._proof_43 := by
  intro w os
  kernel_rfl
set_option maxHeartbeats 0 in
open PySem PySem.W PyProof.Rows in
theorem K50.M2 : K50.stmP (fun t => (List.take 40 t.1.defs, (t.1.ownsOk, t.1.names, t.1.globalsOk, t.1.builtinsOk, t.1.noLimit, t.1.gens), (t.2.1, t.2.2.2.2.2.2.1, t.2.2.2.2.2.2.2.2))) (K50.tk 40 ((recsOf K50.pre.view_39).map fun d => some d.shape), (true, [], true, true, true, 0), (bltViewBooted, plainGoodD K50.pre.view_39 [], clsGoodW K50.pre.view_39 [])) K50.pre._proof_43 := by
  intro w os
  kernel_rfl
set_option maxHeartbeats 0 in
open PySem PySem.W PyProof.Rows in
theorem K50.p3a : K50.stmS (fun s => K50.lkB K50.pre.view_39 s (["WORD_SHAPES", "ONE_SHAPES", "TWO_SHAPES"] : List PySem.Str)) true K50.pre._proof_43 := by
  intro w os
  kernel_rfl
set_option maxHeartbeats 0 in
open PySem PySem.W PyProof.Rows in
theorem K50.r1c : K50.stmP (fun t => List.take 10 (List.drop 70 t.1.defs)) (K50.tk 10 (K50.dr 70 ((recsOf K50.pre.view_39).map fun d => some d.shape))) K50.pre._proof_43 := by
  intro w os
  kernel_rfl
set_option maxHeartbeats 0 in
open PySem PySem.W PyProof.Rows in
theorem K50.r1d : K50.stmP (fun t => List.drop 80 t.1.defs) (K50.dr 80 ((recsOf K50.pre.view_39).map fun d => some d.shape)) K50.pre._proof_43 := by
  intro w os
  kernel_rfl
set_option maxHeartbeats 0 in
open PySem PySem.W PyProof.Rows in
theorem K50.r1b : K50.stmP (fun t => List.take 30 (List.drop 40 t.1.defs)) (K50.tk 30 (K50.dr 40 ((recsOf K50.pre.view_39).map fun d => some d.shape))) K50.pre._proof_43 := by
  intro w os
  kernel_rfl
set_option maxHeartbeats 0 in
open PySem PySem.W PyProof.Rows in
theorem K50.r4a : K50.stmS (fun s => R.allR (K50.tk 40 (Fast.tw3399658132070893891 K50.pre.view_39)) fun d => Fast.tw5930804224584009831 s.heap d.name) true K50.pre._proof_43 := by
  intro w os
  kernel_rfl
set_option maxHeartbeats 0 in
open PySem PySem.W PyProof.Rows in
theorem K50.r4b : K50.stmS (fun s => R.allR (K50.dr 40 (Fast.tw3399658132070893891 K50.pre.view_39)) fun d => Fast.tw5930804224584009831 s.heap d.name) true K50.pre._proof_43 := by
  intro w os
  kernel_rfl
set_option maxHeartbeats 0 in
open PySem PySem.W PyProof.Rows in
theorem K50.s5 : K50.stmP (fun t => t.2.2.2.2.1) (pinGoodD (PyProof.Rows.drecsOf K50.pre.view_39)) K50.pre._proof_43 := by
  intro w os
  kernel_rfl
set_option maxHeartbeats 0 in
open PySem PySem.W PyProof.Rows in
theorem K50.q8a : K50.stmP (fun t => t.2.2.2.2.2.2.2.1.1) ((wdefsOf K50.pre.view_39).map fun d => some d.1.shape) K50.pre._proof_43 := by
  intro w os
  kernel_rfl
set_option maxHeartbeats 0 in
open PySem PySem.W PyProof.Rows in
theorem K50.q8c : K50.stmP (fun t => t.2.2.2.2.2.2.2.1.2) true K50.pre._proof_43 := by
  intro w os
  kernel_rfl
set_option maxHeartbeats 0 in
open PySem PySem.W PyProof.Rows in
theorem K50.x1 : Fast.tw821141287760084731 K50.pre.view_39 [] = (["WORD_SHAPES", "ONE_SHAPES", "TWO_SHAPES"] : List PySem.Str) := by kernel_rfl
set_option maxHeartbeats 0 in
open PySem PySem.W PyProof.Rows in
theorem K50.l6 : (Fast.tw210736558901404530 K50.pre.view_39 (["WORD_SHAPES", "ONE_SHAPES", "TWO_SHAPES"] : List PySem.Str)).map some = [(K50.cls K50.pre.view_39 "Pairs"), (K50.cls K50.pre.view_39 "Desk")] := by kernel_rfl
theorem K50.look1 : K50.stm K50.pre._proof_42 := fun w os => K50.mapF (K50.look13 w os)
theorem K50.look3 : K50.stm K50.pre._proof_44 := fun w os => K50.mapS (K50.look13 w os)
theorem K50.look2 : K50.stm K50.pre._proof_43 := fun w os => K50.asm2 K50.x1 (K50.M1 w os) (K50.r4a w os) (K50.M2 w os) (K50.r1b w os) (K50.r1c w os) (K50.r1d w os) (K50.p3a w os) (K50.r4b w os) (K50.s5 w os) K50.l6 (K50.q8a w os) (K50.q8c w os)
section
open Lean in
local macro_rules
  | `(tactic| kernel_rfl%$tk) => do
    if tk.getAtomVal == "kr0" then Macro.throwUnsupported
    let inner : TSyntax `tactic := ⟨Syntax.node .none ``tacticKernel_rfl #[Syntax.atom .none "kr0"]⟩
    `(tactic| first | (refine K50.split3 ?h1 ?h2 ?h3; (case h1 => exact K50.look1 _ _); (case h2 => exact K50.look2 _ _); (case h3 => exact K50.look3 _ _)) | $inner:tactic)
open PySem PySem.W PyProof.Rows Dx in
set_option maxRecDepth 100000 in
set_option maxHeartbeats 0 in
theorem PySem.Challenge.cw_treestacks_k50_edits_at_a_desk_holds : PySem.Challenge.rw_treestacks_k50_edits_at_a_desk.Holds := by
  w_on; o_law; k_headL; (case hw => w_witness2)
  k_fill
  refine K50.walk (l := PySem.Challenge.rw_treestacks_k50_edits_at_a_desk) rfl rfl (fun w h Y => PySem.W.kIn_of Y) ?F
  case F =>
    intro w mg fa h KX G hmg
    refine' K50.all_mk KX G hmg ?e0 ?e1 ?e2 ?e3 ?e4 ?e5 ?g ?z_len ?z_abs ?z_int ?z_str ?z_bool ?z_tuple ?z_list ?z_all ?z_isinstance ?z_range ?z_sum ?z_any ?z_max ?z_zip ?k_MOST_RULES_AT_DESK ?k_MOST_STEPS ?k_NOT_LIVE ?k_ENDLESS ?k_MOST_LETTERS ?k_MOST_RULES ?k_MOST_KINDS ?w_WORD ?w_ONE ?w_TWO ?pc ?pl ?d_is_integer ?d_is_between ?d_is_word ?d_is_rule ?d_is_rules ?d_steps_of ?d_kinds_behind ?d_endless_kind ?d_part_kinds ?d_is_live ?d_live_kinds ?d_live_rules ?d_live_steps ?d_kinds_in_order ?d_words_by ?d_lengths ?d_law_box ?d_law_take ?d_law_pick ?d_law_is_due ?d_law_unary ?d_law_back_kind ?d_law_shuffled ?d_law_grammar ?d_law_made ?d_same_state ?d_law_now ?d_law_do ?d_law_deed ?d_law_drawn_rule ?d_law_edit ?d_law_edited ?d_law_are_refused ?d_law_is_walked_back ?d_looked_at ?d_alike ?d_law ?m__become ?m__do ?m_undo ?m_redo ?m_report ?m__edit ?m_put ?m_turn ?m_take ?dc ?dk ?pe ?tb
    (case e0 => (refine' xfact_mk ?aC ?xL ?hbm ?sa ?ga ?gg ?nb ?a1 ?t1 ?l1 ?c1 ?k1 ?kC ?eC ?tC ?hC ?iC ?ca ?sg ?tk ?mo; (case aC => k_is); (case xL => k_is); (case hbm => decide +kernel); (case sa => k_is); (case ga => k_is); (case gg => k_is); (case nb => k_is); (case a1 => k_is); (case t1 => k_is); (case l1 => k_is); (case c1 => k_is); (case k1 => k_is); (case kC => k_is); (case eC => k_is); (case tC => k_is); (case hC => k_is); (case iC => k_is); (case ca => k_is); (case sg => k_is); (case tk => k_is); (case mo => k_is)))
    (case e1 => (refine' xfact_mk ?aC ?xL ?hbm ?sa ?ga ?gg ?nb ?a1 ?t1 ?l1 ?c1 ?k1 ?kC ?eC ?tC ?hC ?iC ?ca ?sg ?tk ?mo; (case aC => k_is); (case xL => k_is); (case hbm => decide +kernel); (case sa => k_is); (case ga => k_is); (case gg => k_is); (case nb => k_is); (case a1 => k_is); (case t1 => k_is); (case l1 => k_is); (case c1 => k_is); (case k1 => k_is); (case kC => k_is); (case eC => k_is); (case tC => k_is); (case hC => k_is); (case iC => k_is); (case ca => k_is); (case sg => k_is); (case tk => k_is); (case mo => k_is)))
    (case e2 => (refine' xfact_mk ?aC ?xL ?hbm ?sa ?ga ?gg ?nb ?a1 ?t1 ?l1 ?c1 ?k1 ?kC ?eC ?tC ?hC ?iC ?ca ?sg ?tk ?mo; (case aC => k_is); (case xL => k_is); (case hbm => decide +kernel); (case sa => k_is); (case ga => k_is); (case gg => k_is); (case nb => k_is); (case a1 => k_is); (case t1 => k_is); (case l1 => k_is); (case c1 => k_is); (case k1 => k_is); (case kC => k_is); (case eC => k_is); (case tC => k_is); (case hC => k_is); (case iC => k_is); (case ca => k_is); (case sg => k_is); (case tk => k_is); (case mo => k_is)))
    (case e3 => (refine' xfact_mk ?aC ?xL ?hbm ?sa ?ga ?gg ?nb ?a1 ?t1 ?l1 ?c1 ?k1 ?kC ?eC ?tC ?hC ?iC ?ca ?sg ?tk ?mo; (case aC => k_is); (case xL => k_is); (case hbm => decide +kernel); (case sa => k_is); (case ga => k_is); (case gg => k_is); (case nb => k_is); (case a1 => k_is); (case t1 => k_is); (case l1 => k_is); (case c1 => k_is); (case k1 => k_is); (case kC => k_is); (case eC => k_is); (case tC => k_is); (case hC => k_is); (case iC => k_is); (case ca => k_is); (case sg => k_is); (case tk => k_is); (case mo => k_is)))
    (case e4 => (refine' xfact_mk ?aC ?xL ?hbm ?sa ?ga ?gg ?nb ?a1 ?t1 ?l1 ?c1 ?k1 ?kC ?eC ?tC ?hC ?iC ?ca ?sg ?tk ?mo; (case aC => k_is); (case xL => k_is); (case hbm => decide +kernel); (case sa => k_is); (case ga => k_is); (case gg => k_is); (case nb => k_is); (case a1 => k_is); (case t1 => k_is); (case l1 => k_is); (case c1 => k_is); (case k1 => k_is); (case kC => k_is); (case eC => k_is); (case tC => k_is); (case hC => k_is); (case iC => k_is); (case ca => k_is); (case sg => k_is); (case tk => k_is); (case mo => k_is)))
    (case e5 => (refine' xfact_mk ?aC ?xL ?hbm ?sa ?ga ?gg ?nb ?a1 ?t1 ?l1 ?c1 ?k1 ?kC ?eC ?tC ?hC ?iC ?ca ?sg ?tk ?mo; (case aC => k_is); (case xL => k_is); (case hbm => decide +kernel); (case sa => k_is); (case ga => k_is); (case gg => k_is); (case nb => k_is); (case a1 => k_is); (case t1 => k_is); (case l1 => k_is); (case c1 => k_is); (case k1 => k_is); (case kC => k_is); (case eC => k_is); (case tC => k_is); (case hC => k_is); (case iC => k_is); (case ca => k_is); (case sg => k_is); (case tk => k_is); (case mo => k_is)))
    (case g => (refine' gfact_mk ?a ?r1 ?r2 ?gi ?eC ?hC ?tC; (case a => k_is); (case r1 => k_is); (case r2 => k_is); (case gi => k_is); (case eC => k_is); (case hC => k_is); (case tC => k_is)))
    (case z_len => k_is)
    (case z_abs => k_is)
    (case z_int => k_is)
    (case z_str => k_is)
    (case z_bool => k_is)
    (case z_tuple => k_is)
    (case z_list => k_is)
    (case z_all => k_is)
    (case z_isinstance => k_is)
    (case z_range => k_is)
    (case z_sum => k_is)
    (case z_any => k_is)
    (case z_max => k_is)
    (case z_zip => k_is)
    (case k_MOST_RULES_AT_DESK => k_is)
    (case k_MOST_STEPS => k_is)
    (case k_NOT_LIVE => k_is)
    (case k_ENDLESS => k_is)
    (case k_MOST_LETTERS => k_is)
    (case k_MOST_RULES => k_is)
    (case k_MOST_KINDS => k_is)
    (case w_WORD => (refine' K50.tfact2 ?h ?l (by decide) (by decide); (case h => k_is); (case l => k_is)))
    (case w_ONE => (refine' K50.tfact3 ?h ?l (by decide) (by decide) (by decide); (case h => k_is); (case l => k_is)))
    (case w_TWO => (refine' K50.tfact3 ?h ?l (by decide) (by decide) (by decide); (case h => k_is); (case l => k_is)))
    (case pc => (refine' cfact_mk ?a ?mk ?a1 ?i1 ?kc ?l1 ?c1 ?k1; (case a => k_is); (case mk => k_is); (case a1 => k_is); (case i1 => k_is); (case kc => k_is); (case l1 => k_is); (case c1 => k_is); (case k1 => k_is)))
    (case pl => (refine' K50.pfact_mk ?pg ?hd ?po ?sa ?nk ?nr ?ca ?sg ?tk ?mo; (case pg => k_is); (case hd => k_is); (case po => k_is); (case sa => k_is); (case nk => k_is); (case nr => k_is); (case ca => k_is); (case sg => k_is); (case tk => k_is); (case mo => k_is)))
    (case d_is_integer => (refine' dfact_mk ?a ?l1 ?c1 ?k1; (case a => k_is); (case l1 => k_is); (case c1 => k_is); (case k1 => k_is)))
    (case d_is_between => (refine' dfact_mk ?a ?l1 ?c1 ?k1; (case a => k_is); (case l1 => k_is); (case c1 => k_is); (case k1 => k_is)))
    (case d_is_word => (refine' dfact_mk ?a ?l1 ?c1 ?k1; (case a => k_is); (case l1 => k_is); (case c1 => k_is); (case k1 => k_is)))
    (case d_is_rule => (refine' dfact_mk ?a ?l1 ?c1 ?k1; (case a => k_is); (case l1 => k_is); (case c1 => k_is); (case k1 => k_is)))
    (case d_is_rules => (refine' dfact_mk ?a ?l1 ?c1 ?k1; (case a => k_is); (case l1 => k_is); (case c1 => k_is); (case k1 => k_is)))
    (case d_steps_of => (refine' dfact_mk ?a ?l1 ?c1 ?k1; (case a => k_is); (case l1 => k_is); (case c1 => k_is); (case k1 => k_is)))
    (case d_kinds_behind => (refine' dfact_mk ?a ?l1 ?c1 ?k1; (case a => k_is); (case l1 => k_is); (case c1 => k_is); (case k1 => k_is)))
    (case d_endless_kind => (refine' dfact_mk ?a ?l1 ?c1 ?k1; (case a => k_is); (case l1 => k_is); (case c1 => k_is); (case k1 => k_is)))
    (case d_part_kinds => (refine' dfact_mk ?a ?l1 ?c1 ?k1; (case a => k_is); (case l1 => k_is); (case c1 => k_is); (case k1 => k_is)))
    (case d_is_live => (refine' dfact_mk ?a ?l1 ?c1 ?k1; (case a => k_is); (case l1 => k_is); (case c1 => k_is); (case k1 => k_is)))
    (case d_live_kinds => (refine' dfact_mk ?a ?l1 ?c1 ?k1; (case a => k_is); (case l1 => k_is); (case c1 => k_is); (case k1 => k_is)))
    (case d_live_rules => (refine' dfact_mk ?a ?l1 ?c1 ?k1; (case a => k_is); (case l1 => k_is); (case c1 => k_is); (case k1 => k_is)))
    (case d_live_steps => (refine' dfact_mk ?a ?l1 ?c1 ?k1; (case a => k_is); (case l1 => k_is); (case c1 => k_is); (case k1 => k_is)))
    (case d_kinds_in_order => (refine' dfact_mk ?a ?l1 ?c1 ?k1; (case a => k_is); (case l1 => k_is); (case c1 => k_is); (case k1 => k_is)))
    (case d_words_by => (refine' dfact_mk ?a ?l1 ?c1 ?k1; (case a => k_is); (case l1 => k_is); (case c1 => k_is); (case k1 => k_is)))
    (case d_lengths => (refine' dfact_mk ?a ?l1 ?c1 ?k1; (case a => k_is); (case l1 => k_is); (case c1 => k_is); (case k1 => k_is)))
    (case d_law_box => (refine' dfact_mk ?a ?l1 ?c1 ?k1; (case a => k_is); (case l1 => k_is); (case c1 => k_is); (case k1 => k_is)))
    (case d_law_take => (refine' dfact_mk ?a ?l1 ?c1 ?k1; (case a => k_is); (case l1 => k_is); (case c1 => k_is); (case k1 => k_is)))
    (case d_law_pick => (refine' dfact_mk ?a ?l1 ?c1 ?k1; (case a => k_is); (case l1 => k_is); (case c1 => k_is); (case k1 => k_is)))
    (case d_law_is_due => (refine' dfact_mk ?a ?l1 ?c1 ?k1; (case a => k_is); (case l1 => k_is); (case c1 => k_is); (case k1 => k_is)))
    (case d_law_unary => (refine' dfact_mk ?a ?l1 ?c1 ?k1; (case a => k_is); (case l1 => k_is); (case c1 => k_is); (case k1 => k_is)))
    (case d_law_back_kind => (refine' dfact_mk ?a ?l1 ?c1 ?k1; (case a => k_is); (case l1 => k_is); (case c1 => k_is); (case k1 => k_is)))
    (case d_law_shuffled => (refine' dfact_mk ?a ?l1 ?c1 ?k1; (case a => k_is); (case l1 => k_is); (case c1 => k_is); (case k1 => k_is)))
    (case d_law_grammar => (refine' dfact_mk ?a ?l1 ?c1 ?k1; (case a => k_is); (case l1 => k_is); (case c1 => k_is); (case k1 => k_is)))
    (case d_law_made => (refine' dfact_mk ?a ?l1 ?c1 ?k1; (case a => k_is); (case l1 => k_is); (case c1 => k_is); (case k1 => k_is)))
    (case d_same_state => (refine' dfact_mk ?a ?l1 ?c1 ?k1; (case a => k_is); (case l1 => k_is); (case c1 => k_is); (case k1 => k_is)))
    (case d_law_now => (refine' dfact_mk ?a ?l1 ?c1 ?k1; (case a => k_is); (case l1 => k_is); (case c1 => k_is); (case k1 => k_is)))
    (case d_law_do => (refine' dfact_mk ?a ?l1 ?c1 ?k1; (case a => k_is); (case l1 => k_is); (case c1 => k_is); (case k1 => k_is)))
    (case d_law_deed => (refine' dfact_mk ?a ?l1 ?c1 ?k1; (case a => k_is); (case l1 => k_is); (case c1 => k_is); (case k1 => k_is)))
    (case d_law_drawn_rule => (refine' dfact_mk ?a ?l1 ?c1 ?k1; (case a => k_is); (case l1 => k_is); (case c1 => k_is); (case k1 => k_is)))
    (case d_law_edit => (refine' dfact_mk ?a ?l1 ?c1 ?k1; (case a => k_is); (case l1 => k_is); (case c1 => k_is); (case k1 => k_is)))
    (case d_law_edited => (refine' dfact_mk ?a ?l1 ?c1 ?k1; (case a => k_is); (case l1 => k_is); (case c1 => k_is); (case k1 => k_is)))
    (case d_law_are_refused => (refine' dfact_mk ?a ?l1 ?c1 ?k1; (case a => k_is); (case l1 => k_is); (case c1 => k_is); (case k1 => k_is)))
    (case d_law_is_walked_back => (refine' dfact_mk ?a ?l1 ?c1 ?k1; (case a => k_is); (case l1 => k_is); (case c1 => k_is); (case k1 => k_is)))
    (case d_looked_at => (refine' dfact_mk ?a ?l1 ?c1 ?k1; (case a => k_is); (case l1 => k_is); (case c1 => k_is); (case k1 => k_is)))
    (case d_alike => (refine' dfact_mk ?a ?l1 ?c1 ?k1; (case a => k_is); (case l1 => k_is); (case c1 => k_is); (case k1 => k_is)))
    (case d_law => (refine' dfact_mk ?a ?l1 ?c1 ?k1; (case a => k_is); (case l1 => k_is); (case c1 => k_is); (case k1 => k_is)))
    (case dc => (refine' cfact_mk ?a ?mk ?a1 ?i1 ?kc ?l1 ?c1 ?k1; (case a => k_is); (case mk => k_is); (case a1 => k_is); (case i1 => k_is); (case kc => k_is); (case l1 => k_is); (case c1 => k_is); (case k1 => k_is)))
    (case dk => (refine' K50.kfact_mk ?pg ?hd ?po ?sa ?n1 ?n2 ?n3 ?n4 ?n5 ?n6 ?n7 ?eqD ?moD ?neP; (case pg => k_is); (case hd => k_is); (case po => k_is); (case sa => k_is); (case n1 => k_is); (case n2 => k_is); (case n3 => k_is); (case n4 => k_is); (case n5 => k_is); (case n6 => k_is); (case n7 => k_is); (case eqD => k_is); (case moD => k_is); (case neP => k_is)))
    (case pe => (refine' K50.mfact_mk ?a ?i ?l1 ?c1 ?k1; (case a => k_is); (case i => k_is); (case l1 => k_is); (case c1 => k_is); (case k1 => k_is)))
    (case m__become => (refine' K50.mfact_mk ?a ?i ?l1 ?c1 ?k1; (case a => k_is); (case i => k_is); (case l1 => k_is); (case c1 => k_is); (case k1 => k_is)))
    (case m__do => (refine' K50.mfact_mk ?a ?i ?l1 ?c1 ?k1; (case a => k_is); (case i => k_is); (case l1 => k_is); (case c1 => k_is); (case k1 => k_is)))
    (case m_undo => (refine' K50.mfact_mk ?a ?i ?l1 ?c1 ?k1; (case a => k_is); (case i => k_is); (case l1 => k_is); (case c1 => k_is); (case k1 => k_is)))
    (case m_redo => (refine' K50.mfact_mk ?a ?i ?l1 ?c1 ?k1; (case a => k_is); (case i => k_is); (case l1 => k_is); (case c1 => k_is); (case k1 => k_is)))
    (case m_report => (refine' K50.mfact_mk ?a ?i ?l1 ?c1 ?k1; (case a => k_is); (case i => k_is); (case l1 => k_is); (case c1 => k_is); (case k1 => k_is)))
    (case m__edit => (refine' K50.mfact_mk ?a ?i ?l1 ?c1 ?k1; (case a => k_is); (case i => k_is); (case l1 => k_is); (case c1 => k_is); (case k1 => k_is)))
    (case m_put => (refine' K50.mfact_mk ?a ?i ?l1 ?c1 ?k1; (case a => k_is); (case i => k_is); (case l1 => k_is); (case c1 => k_is); (case k1 => k_is)))
    (case m_turn => (refine' K50.mfact_mk ?a ?i ?l1 ?c1 ?k1; (case a => k_is); (case i => k_is); (case l1 => k_is); (case c1 => k_is); (case k1 => k_is)))
    (case m_take => (refine' K50.mfact_mk ?a ?i ?l1 ?c1 ?k1; (case a => k_is); (case i => k_is); (case l1 => k_is); (case c1 => k_is); (case k1 => k_is)))
    (case tb => kernel_rfl)
end
