import PyProof.Rows.All
import Wide.All
import OpenK.AllK
import Wide.FinOn
import PyProof.EqAt
import PyProof.EqKinds
import PyProof.TupleCall
import HandS.ForMost
import HandS.ForExc
import HandS.Evl
import HandS.TupAny
import HandS.IsInst
import HandS.Deep
import HandS.Flow
import HandS.Style
import HandS.TupMul
import KE.KExcIs
import HandS.ExcInit
import HandS.ClsMeth
import HandS.ExcField
import HandS.ExcIs
import HandS.TryMany
import HandS.OwnEq
import HandS.More
import HandS.Text
import HandS.Rev
import HandS.RevTup
import HandS.SetFor
import HandS.List
import HandS.SortRule
import HandS.SortInts
import HandS.TupSets
import HandS.Sort
import HandS.NamedTupSort
import HandS.Conv
import HandS.SortOrd
import KE.KSortTup
import HandS.TupLe
import HandS.Comp
import HandS.DictComp
import KE.DataCmp
import PyProof.FitsBits
import HandS.Star
import HandS.Wide
import PySem.Challenge.RW_treestacks_k12_bars_looked_at
set_option Elab.async false
set_option linter.all false
set_option maxRecDepth 100000
set_option maxHeartbeats 8000000
/-! Values of a program as plain data: what an expression evaluates to, over heaps that grow. -/
namespace Dx
open PySem PySem.Spec PyProof.Rows L2 Evl

/-! ### data that a value stands for -/
/-- a tuple that stands so: one of the heap, or one of the module's -/
abbrev TupAt (K : PySem.W.Frag) (H : Hp) (a : Addr) (xs : List V) : Prop := H a = some (.tup xs) ∨
  ∃ (o : Obj) (its : Array Value) (n : Nat), K.lookup a = some o ∧ o.cls = .type "tuple" ∧ o.data = .seq its n ∧ its.size ≤ sizeLine ∧ Vals xs its.toList
theorem TupAt.sq {K : PySem.W.Frag} {H : Hp} {a : Addr} {xs : List V} (h : TupAt K H a xs) : SqT K H a xs := h.imp (fun z => .inl z) id
theorem ta_of {K : PySem.W.Frag} {H : Hp} {a : Addr} {xs : List V} (h : H a = some (.tup xs)) : TupAt K H a xs := .inl h
theorem ta_ex {K : PySem.W.Frag} {H H' : Hp} {a : Addr} {xs : List V} (e : Ex H H') (h : TupAt K H a xs) : TupAt K H' a xs := h.imp (fun z => e _ _ z) id
mutual
inductive Dd (K : PySem.W.Frag) (H : Hp) : V → PyData → Prop
  | non : Dd K H .non .none
  | bl (b : Bool) : Dd K H (.bl b) (.bool b)
  | int (i : Int) : Dd K H (.int i) (.int i)
  | str (x : Str) : x.length ≤ sizeLine → Dd K H (.str x) (.str x)
  | lst {a : Addr} {xs : List V} {ds : List PyData} : H a = some (.lst xs) → xs.length ≤ sizeLine → DdAll K H xs ds → Dd K H (.ref a) (.list ds)
  | tup {a : Addr} {xs : List V} {ds : List PyData} : TupAt K H a xs → xs.length ≤ sizeLine → DdAll K H xs ds → Dd K H (.ref a) (.tuple ds)
inductive DdAll (K : PySem.W.Frag) (H : Hp) : List V → List PyData → Prop
  | nil : DdAll K H [] []
  | cons {v : V} {vs : List V} {d : PyData} {ds : List PyData} : Dd K H v d → DdAll K H vs ds → DdAll K H (v :: vs) (d :: ds)
end
section
variable {K : PySem.W.Frag} {H H' : Hp}
mutual
theorem Dd.mono (e : Ex H H') : ∀ (d : PyData) (v : V), Dd K H v d → Dd K H' v d
  | .none, _, h => by cases h; exact .non
  | .bool b, _, h => by cases h; exact .bl b
  | .int i, _, h => by cases h; exact .int i
  | .str x, _, h => by
    cases h with
    | str _ hl => exact .str x hl
  | .list ds, _, h => by
    cases h with
    | lst hs hl ha => exact .lst (e _ _ hs) hl (DdAll.mono e ds _ ha)
  | .tuple ds, _, h => by
    cases h with
    | tup hs hl ha => exact .tup (ta_ex e hs) hl (DdAll.mono e ds _ ha)
  | .dict _, _, h => by cases h
theorem DdAll.mono (e : Ex H H') : ∀ (ds : List PyData) (vs : List V), DdAll K H vs ds → DdAll K H' vs ds
  | [], _, h => by cases h; exact .nil
  | d :: ds, _, h => by
    cases h with
    | cons h1 h2 => exact .cons (Dd.mono e d _ h1) (DdAll.mono e ds _ h2)
end
theorem Dd.up {v : V} {d : PyData} (h : Dd K H v d) (e : Ex H H') : Dd K H' v d := Dd.mono e d v h
theorem DdAll.up {vs : List V} {ds : List PyData} (h : DdAll K H vs ds) (e : Ex H H') : DdAll K H' vs ds := DdAll.mono e ds vs h
mutual
theorem Dd.dp : ∀ (d : PyData) (v : V), Dd K H v d → Dp K H v d
  | .none, _, h => by cases h; exact .non
  | .bool b, _, h => by cases h; exact .bl b
  | .int i, _, h => by cases h; exact .int i
  | .str x, _, h => by
    cases h with
    | str _ hl => exact .str x
  | .list ds, _, h => by
    cases h with
    | lst hs hl ha => exact .lst (sq_of hs) (DdAll.dp ds _ ha)
  | .tuple ds, _, h => by
    cases h with
    | tup hs hl ha => exact .tup hs.sq (DdAll.dp ds _ ha)
  | .dict _, _, h => by cases h
theorem DdAll.dp : ∀ (ds : List PyData) (vs : List V), DdAll K H vs ds → DpAll K H vs ds
  | [], _, h => by cases h; exact .nil
  | d :: ds, _, h => by
    cases h with
    | cons h1 h2 => exact .cons (Dd.dp d _ h1) (DdAll.dp ds _ h2)
end
theorem DdAll.len : ∀ {vs : List V} {ds : List PyData}, DdAll K H vs ds → vs.length = ds.length
  | _, _, .nil => rfl
  | _, _, .cons _ t => by
    rw [List.length_cons, List.length_cons, DdAll.len t]
theorem DdAll.app : ∀ {vs us : List V} {ds es : List PyData}, DdAll K H vs ds → DdAll K H us es → DdAll K H (vs ++ us) (ds ++ es)
  | _, _, _, _, .nil, h => h
  | _, _, _, _, .cons a t, h => .cons a (DdAll.app t h)
theorem DdAll.get : ∀ {vs : List V} {ds : List PyData} {i : Nat} {d : PyData}, DdAll K H vs ds → ds[i]? = some d → ∃ v, vs[i]? = some v ∧ Dd K H v d
  | _, _, _, _, .nil, e => by simp at e
  | _, _, 0, _, .cons a _, e => by
    simp at e
    subst e
    exact ⟨_, rfl, a⟩
  | _, _, i + 1, d, .cons _ t, e => by
    obtain ⟨v, h1, h2⟩ := DdAll.get (i := i) (d := d) t (by simpa using e)
    exact ⟨v, by simpa using h1, h2⟩
theorem DdAll.getv : ∀ {vs : List V} {ds : List PyData} {i : Nat} {v : V}, DdAll K H vs ds → vs[i]? = some v → ∃ d, ds[i]? = some d ∧ Dd K H v d
  | _, _, _, _, .nil, e => by simp at e
  | _, _, 0, _, .cons a _, e => by
    simp at e
    subst e
    exact ⟨_, rfl, a⟩
  | _, _, i + 1, d, .cons _ t, e => by
    obtain ⟨v, h1, h2⟩ := DdAll.getv (i := i) (v := d) t (by simpa using e)
    exact ⟨v, by simpa using h1, h2⟩
theorem DdAll.take : ∀ {vs : List V} {ds : List PyData} (n : Nat), DdAll K H vs ds → DdAll K H (vs.take n) (ds.take n)
  | _, _, 0, _ => .nil
  | _, _, _ + 1, .nil => .nil
  | _, _, n + 1, .cons r t => .cons r (DdAll.take n t)
theorem DdAll.drop : ∀ {vs : List V} {ds : List PyData} (n : Nat), DdAll K H vs ds → DdAll K H (vs.drop n) (ds.drop n)
  | _, _, 0, r => r
  | _, _, _ + 1, .nil => .nil
  | _, _, n + 1, .cons _ t => DdAll.drop n t
theorem DdAll.snoc {vs : List V} {ds : List PyData} {v : V} {d : PyData} (h : DdAll K H vs ds) (g : Dd K H v d) : DdAll K H (vs ++ [v]) (ds ++ [d]) := h.app (.cons g .nil)
theorem DdAll.rev {vs : List V} {ds : List PyData} (h : DdAll K H vs ds) : DdAll K H vs.reverse ds.reverse := by
  induction ds generalizing vs with
  | nil =>
    cases h
    exact .nil
  | cons d ds ih =>
    cases h with
    | cons a t =>
      rw [List.reverse_cons, List.reverse_cons]
      exact (ih t).snoc a
theorem DdAll.rep {vs : List V} {ds : List PyData} (h : DdAll K H vs ds) : ∀ n : Nat, DdAll K H (List.replicate n vs).flatten (List.replicate n ds).flatten
  | 0 => .nil
  | n + 1 => by
    rw [List.replicate_succ, List.replicate_succ, List.flatten_cons, List.flatten_cons]
    exact h.app (DdAll.rep h n)
theorem dd_int {v : V} {i : Int} (h : Dd K H v (.int i)) : v = .int i := by cases h; rfl
theorem dd_bl {v : V} {b : Bool} (h : Dd K H v (.bool b)) : v = .bl b := by cases h; rfl
theorem dd_non {v : V} (h : Dd K H v .none) : v = .non := by cases h; rfl
theorem dd_str {v : V} {x : Str} (h : Dd K H v (.str x)) : v = .str x ∧ x.length ≤ sizeLine := by
  cases h with
  | str _ hl => exact ⟨rfl, hl⟩
theorem dd_tup {v : V} {ds : List PyData} (h : Dd K H v (.tuple ds)) : ∃ a xs, v = .ref a ∧ SqT K H a xs ∧ xs.length ≤ sizeLine ∧ DdAll K H xs ds := by
  cases h with
  | tup hs hl ha => exact ⟨_, _, rfl, hs.sq, hl, ha⟩
theorem dd_tupA {v : V} {ds : List PyData} (h : Dd K H v (.tuple ds)) : ∃ a xs, v = .ref a ∧ TupAt K H a xs ∧ xs.length ≤ sizeLine ∧ DdAll K H xs ds := by
  cases h with
  | tup hs hl ha => exact ⟨_, _, rfl, hs, hl, ha⟩
theorem dd_lst {v : V} {ds : List PyData} (h : Dd K H v (.list ds)) : ∃ a xs, v = .ref a ∧ H a = some (.lst xs) ∧ xs.length ≤ sizeLine ∧ DdAll K H xs ds := by
  cases h with
  | lst hs hl ha => exact ⟨_, _, rfl, hs, hl, ha⟩
end

mutual
theorem eqv_refl : ∀ d : PyData, d.canLay0 = true → PyData.eqv d d = true
  | .none, _ => by simp [PyData.eqv]
  | .bool b, _ => by simp [PyData.eqv]
  | .int i, _ => by simp [PyData.eqv]
  | .str x, _ => by simp [PyData.eqv]
  | .list ds, h => by
    simp only [PyData.eqv]
    exact eqvAll_refl ds (by simpa [PyData.canLay0] using h)
  | .tuple ds, h => by
    simp only [PyData.eqv]
    exact eqvAll_refl ds (by simpa [PyData.canLay0] using h)
  | .dict _, h => by simp [PyData.canLay0] at h
theorem eqvAll_refl : ∀ ds : List PyData, PyData.canLayAll0 ds = true → PyData.eqvAll ds ds = true
  | [], _ => by simp [PyData.eqvAll]
  | d :: ds, h => by
    have h' : d.canLay0 = true ∧ PyData.canLayAll0 ds = true := by simpa [PyData.canLayAll0] using h
    simp only [PyData.eqvAll]
    rw [eqv_refl d h'.1, eqvAll_refl ds h'.2]
    rfl
end
theorem shaped_lay {d : PyData} (h : SeqAt.shaped d = true) : d.canLay0 = true := SeqAt.canLay_of_shaped h

/-! ### objects that are no tuples: lists, dicts, instances .. -/
def nT : HO → Prop
  | .tup _ => False
  | _ => True
def Liv (H : Hp) (a : Addr) : Prop := ∃ o, H a = some o ∧ nT o
theorem Liv.ne {H : Hp} {a : Addr} (h : Liv H a) : H a ≠ none := by
  obtain ⟨o, e, _⟩ := h
  rw [e]
  exact fun z => nomatch z
theorem Liv.upd {H : Hp} {a p : Addr} {o : HO} (h : Liv H a) (hp : a ≠ p) : Liv (upd H p o) a := by
  obtain ⟨x, e, n⟩ := h
  exact ⟨x, by rw [upd_ne hp]; exact e, n⟩
theorem liv_set {H : Hp} {p : Addr} {o : HO} (h : nT o) : Liv (L2.upd H p o) p := ⟨o, upd_same, h⟩
/-! ### what is changed: objects of M alone; J holds of the heap all the while; B: the part of the heap that data stand in -/
structure Fm where
  M : Addr → Prop
  J : Hp → Prop
  up : ∀ H H', Ex H H' → J H → J H'
  lv : ∀ H a, J H → M a → Liv H a
  fr : ∀ H a o, J H → ¬ M a → J (upd H a o)
def Fm.pure : Fm := ⟨fun _ => False, fun _ => True, fun _ _ _ _ => trivial, fun _ _ _ z => z.elim, fun _ _ _ _ _ => trivial⟩
structure Step (M : Addr → Prop) (B H B' H' : Hp) : Prop where
  bb : Ex B B'
  bh : Ex B' H'
  keep : ∀ a o, ¬ M a → H a = some o → H' a = some o
  sep : ∀ a, B a = none → Liv H a → B' a = none
  live : ∀ a, H a ≠ none → H' a ≠ none
  liv : ∀ a, Liv H a → Liv H' a
section
variable {M M' : Addr → Prop} {B H B' H' B2 H2 : Hp} {p : Addr} {o : HO}
theorem Step.refl (e : Ex B H) : Step M B H B H := ⟨Ex.refl B, e, fun _ _ _ h => h, fun _ h _ => h, fun _ h => h, fun _ h => h⟩
theorem Step.trans (a : Step M B H B' H') (b : Step M B' H' B2 H2) : Step M B H B2 H2 :=
  ⟨a.bb.trans b.bb, b.bh, fun x o n h => b.keep x o n (a.keep x o n h), fun x h n => b.sep x (a.sep x h n) (a.liv x n), fun x n => b.live x (a.live x n), fun x n => b.liv x (a.liv x n)⟩
theorem Step.imp (a : Step M B H B' H') (h : ∀ x, M x → M' x) : Step M' B H B' H' := ⟨a.bb, a.bh, fun x o n => a.keep x o fun z => n (h x z), a.sep, a.live, a.liv⟩
theorem Step.pure (a : Step (fun _ => False) B H B' H') : Step M B H B' H' := a.imp fun _ z => z.elim
theorem Step.ex (a : Step (fun _ => False) B H B' H') : Ex H H' := fun x o h => a.keep x o (fun z => z) h
theorem Step.alloc (e : Ex B H) (hp : H p = none) : Step M B H (upd B p o) (upd H p o) where
  bb := Ex.new (fresh_back e hp)
  bh := fun a u h => by
    by_cases ha : a = p
    · subst ha
      rw [upd_same] at h ⊢
      exact h
    · rw [upd_ne ha] at h ⊢
      exact e a u h
  keep := fun a u _ h => by
    rw [upd_ne (ne_of_none h hp)]
    exact h
  sep := fun a h n => by
    have ha : a ≠ p := fun z => n.ne (z ▸ hp)
    rw [upd_ne ha]
    exact h
  live := fun a n => by
    have ha : a ≠ p := fun z => n (z ▸ hp)
    rw [upd_ne ha]
    exact n
  liv := fun a n => n.upd fun z => n.ne (z ▸ hp)
end

/-- the data stand in B, nothing of M among them -/
structure Ok (F : Fm) (B H : Hp) : Prop where
  e : Ex B H
  j : F.J H
  av : ∀ a, F.M a → B a = none
section
variable {F : Fm} {B H B' H' : Hp} {p : Addr} {o : HO}
theorem Ok.next (k : Ok F B H) (s : Step F.M B H B' H') (j : F.J H') : Ok F B' H' := ⟨s.bh, j, fun a m => s.sep a (k.av a m) (F.lv H a k.j m)⟩
theorem Ok.alloc (k : Ok F B H) (hp : H p = none) : Ok F (upd B p o) (upd H p o) := k.next (Step.alloc k.e hp) (F.up _ _ (Ex.new hp) k.j)
theorem Ok.pure (k : Ok F B H) (s : Step (fun _ => False) B H B' H') : Ok F B' H' := k.next s.pure (F.up _ _ s.ex k.j)
theorem Ok.any (e : Ex B H) : Ok Fm.pure B H := ⟨e, trivial, fun _ z => z.elim⟩
end

/-! ### what expressions evaluate to -/
abbrev PV := V → Hp → Prop
def EV (F : Fm) (te : TE) (σ : L2.St) (B : Hp) (P : PV) : Prop := ∀ B1, Ex B B1 → ∀ H, Ok F B1 H → ∀ Q : VK, (∀ v B' H', Step F.M B1 H B' H' → Ok F B' H' → P v B' → Q v H') → te σ H Q
def EVs (F : Fm) (ta : TA) (σ : L2.St) (B : Hp) (P : List V → Hp → Prop) : Prop := ∀ B1, Ex B B1 → ∀ H, Ok F B1 H → ∀ Q : List V → Hp → Prop, (∀ vs B' H', Step F.M B1 H B' H' → Ok F B' H' → P vs B' → Q vs H') → ta σ H Q
def ETt (F : Fm) (tt : TT) (σ : L2.St) (B : Hp) (b : Bool) : Prop := ∀ B1, Ex B B1 → ∀ H, Ok F B1 H → ∀ Q : Bool → Hp → Prop, (∀ B' H', Step F.M B1 H B' H' → Ok F B' H' → Q b H') → tt σ H Q
def DD (K : PySem.W.Frag) (d : PyData) : PV := fun v B => Dd K B v d
def DDs (K : PySem.W.Frag) (ds : List PyData) : List V → Hp → Prop := fun vs B => DdAll K B vs ds
abbrev ED (F : Fm) (K : PySem.W.Frag) (te : TE) (σ : L2.St) (B : Hp) (d : PyData) : Prop := EV F te σ B (DD K d)
abbrev EDs (F : Fm) (K : PySem.W.Frag) (ta : TA) (σ : L2.St) (B : Hp) (ds : List PyData) : Prop := EVs F ta σ B (DDs K ds)
/-- operations on values -/
def RV2 (F : Fm) (r : R2) (B : Hp) (P P' Z : PV) : Prop := ∀ B1, Ex B B1 → ∀ H u v, Ok F B1 H → P u B1 → P' v B1 → ∀ Q : VK, (∀ w B' H', Step F.M B1 H B' H' → Ok F B' H' → Z w B' → Q w H') → r u v H Q
def RVc (F : Fm) (r : List V → Hp → VK → Prop) (B : Hp) (P : List V → Hp → Prop) (Z : PV) : Prop := ∀ B1, Ex B B1 → ∀ H us, Ok F B1 H → P us B1 → ∀ Q : VK, (∀ w B' H', Step F.M B1 H B' H' → Ok F B' H' → Z w B' → Q w H') → r us H Q
abbrev RD2 (F : Fm) (K : PySem.W.Frag) (r : R2) (B : Hp) (x y z : PyData) : Prop := RV2 F r B (DD K x) (DD K y) (DD K z)
abbrev RDc (F : Fm) (K : PySem.W.Frag) (r : List V → Hp → VK → Prop) (B : Hp) (xs : List PyData) (z : PyData) : Prop := RVc F r B (DDs K xs) (DD K z)
/-- stays true in larger heaps -/
def Upc (P : PV) : Prop := ∀ v B B', Ex B B' → P v B → P v B'
def Upcs (P : List V → Hp → Prop) : Prop := ∀ v B B', Ex B B' → P v B → P v B'
section
variable {F : Fm} {K : PySem.W.Frag} {σ : L2.St} {B B' : Hp} {te ta tb tc : TE} {tas : TA} {t u : TT} {d x y z : PyData} {ds : List PyData} {b c : Bool} {P P' Z : PV} {Ps : List V → Hp → Prop}
theorem upc_dd : Upc (DD K d) := fun _ _ _ e h => Dd.up h e
theorem upc_dds : Upcs (DDs K ds) := fun _ _ _ e h => DdAll.up h e
theorem EV.up (h : EV F te σ B P) (e : Ex B B') : EV F te σ B' P := fun B1 e0 H j Q q => h B1 (e.trans e0) H j Q q
theorem EVs.up (h : EVs F tas σ B Ps) (e : Ex B B') : EVs F tas σ B' Ps := fun B1 e0 H j Q q => h B1 (e.trans e0) H j Q q
theorem ETt.up (h : ETt F t σ B b) (e : Ex B B') : ETt F t σ B' b := fun B1 e0 H j Q q => h B1 (e.trans e0) H j Q q
theorem EV.imp (h : EV F te σ B P) (i : ∀ v B1, Ex B B1 → P v B1 → Z v B1) : EV F te σ B Z := fun B1 e0 H j Q q => h B1 e0 H j Q fun v B2 H2 s j2 p => q v B2 H2 s j2 (i v B2 (e0.trans s.bb) p)
theorem ed_is {d' : PyData} (h : ED F K te σ B d) (e : d = d') : ED F K te σ B d' := e ▸ h
theorem et_is {b' : Bool} (h : ETt F t σ B b) (e : b = b') : ETt F t σ B b' := e ▸ h
theorem ev_v {v : V} (hu : Upc P) (h : P v B) : EV F (tC v) σ B P := fun B1 e0 H j Q q => q v B1 H (Step.refl j.e) j (hu v B B1 e0 h)
theorem ev_var {i : Nat} {v : V} (hi : σ[i]? = some (some v)) (hu : Upc P) (h : P v B) : EV F (tVar i) σ B P := fun B1 e0 H j Q q => ⟨v, hi, q v B1 H (Step.refl j.e) j (hu v B B1 e0 h)⟩
theorem ed_var {i : Nat} {v : V} (hi : σ[i]? = some (some v)) (h : Dd K B v d) : ED F K (tVar i) σ B d := ev_var hi upc_dd h
theorem ed_v {v : V} (h : Dd K B v d) : ED F K (tC v) σ B d := ev_v upc_dd h
theorem ed_int {i : Int} : ED F K (tC (.int i)) σ B (.int i) := ed_v (.int i)
theorem ed_bl : ED F K (tC (.bl b)) σ B (.bool b) := ed_v (.bl b)
theorem ed_non : ED F K (tC .non) σ B .none := ed_v .non
theorem ed_str {x : Str} (hl : x.length ≤ sizeLine := by decide) : ED F K (tC (.str x)) σ B (.str x) := ed_v (.str x hl)
theorem evs_nil : EVs F tNil σ B (fun vs _ => vs = []) := fun B1 e0 H j Q q => q [] B1 H (Step.refl j.e) j rfl
theorem evs_cons (hu : Upc P) (h : EV F te σ B P) (hs : EVs F tas σ B Ps) : EVs F (tCons te tas) σ B (fun vs B => ∃ v us, vs = v :: us ∧ P v B ∧ Ps us B) := fun B1 e0 H j Q q =>
  h B1 e0 H j _ fun v B2 H2 s2 j2 p => hs B2 (e0.trans s2.bb) H2 j2 _ fun us B3 H3 s3 j3 ps => q (v :: us) B3 H3 (s2.trans s3) j3 ⟨v, us, rfl, hu v B2 B3 s3.bb p, ps⟩
theorem eds_nil : EDs F K tNil σ B [] := fun B1 e0 H j Q q => q [] B1 H (Step.refl j.e) j .nil
theorem eds_cons (h : ED F K te σ B d) (hs : EDs F K tas σ B ds) : EDs F K (tCons te tas) σ B (d :: ds) := fun B1 e0 H j Q q =>
  h B1 e0 H j _ fun v B2 H2 s2 j2 p => hs B2 (e0.trans s2.bb) H2 j2 _ fun us B3 H3 s3 j3 ps => q (v :: us) B3 H3 (s2.trans s3) j3 (.cons (Dd.up p s3.bb) ps)
/-- a new object -/
theorem EVs.newT (h : EVs F tas σ B Ps) (hl : ∀ vs B1, Ex B B1 → Ps vs B1 → vs.length ≤ sizeLine) (hz : ∀ vs p B1, Ex B B1 → Ps vs B1 → B1 p = none → Z (.ref p) (upd B1 p (.tup vs))) : EV F (tTup tas) σ B Z := fun B1 e0 H j Q q =>
  h B1 e0 H j _ fun vs B2 H2 s2 j2 p => ⟨hl vs B2 (e0.trans s2.bb) p, fun a ha => q (.ref a) _ _ (s2.trans (Step.alloc j2.e ha)) (j2.alloc ha) (hz vs a B2 (e0.trans s2.bb) p (fresh_back s2.bh ha))⟩
theorem EVs.newL (h : EVs F tas σ B Ps) (hl : ∀ vs B1, Ex B B1 → Ps vs B1 → vs.length ≤ sizeLine) (hz : ∀ vs p B1, Ex B B1 → Ps vs B1 → B1 p = none → Z (.ref p) (upd B1 p (.lst vs))) : EV F (tLst tas) σ B Z := fun B1 e0 H j Q q =>
  h B1 e0 H j _ fun vs B2 H2 s2 j2 p => ⟨hl vs B2 (e0.trans s2.bb) p, fun a ha => q (.ref a) _ _ (s2.trans (Step.alloc j2.e ha)) (j2.alloc ha) (hz vs a B2 (e0.trans s2.bb) p (fresh_back s2.bh ha))⟩
theorem ed_tup (h : EDs F K tas σ B ds) (hl : ds.length ≤ 16777216 := by exact Nat.le_of_ble_eq_true rfl) : ED F K (tTup tas) σ B (.tuple ds) := by
  have lz : ∀ (vs : List V) (B1 : Hp), Ex B B1 → DDs K ds vs B1 → vs.length ≤ sizeLine := fun vs B1 _ g => by rw [DdAll.len g, sizeLine_eq]; exact hl
  exact h.newT lz fun vs p B1 e g hp => .tup (ta_of upd_same) (lz vs B1 e g) (DdAll.up g (Ex.new hp))
theorem ed_lst (h : EDs F K tas σ B ds) (hl : ds.length ≤ 16777216 := by exact Nat.le_of_ble_eq_true rfl) : ED F K (tLst tas) σ B (.list ds) := by
  have lz : ∀ (vs : List V) (B1 : Hp), Ex B B1 → DDs K ds vs B1 → vs.length ≤ sizeLine := fun vs B1 _ g => by rw [DdAll.len g, sizeLine_eq]; exact hl
  exact h.newL lz fun vs p B1 e g hp => .lst upd_same (lz vs B1 e g) (DdAll.up g (Ex.new hp))
theorem ev_op {r : R2} (ha : EV F ta σ B P) (hb : EV F tb σ B P') (hu : Upc P) (hr : RV2 F r B P P' Z) : EV F (tOp r ta tb) σ B Z := fun B1 e0 H j Q q =>
  ha B1 e0 H j _ fun v B2 H2 s2 j2 h2 => hb B2 (e0.trans s2.bb) H2 j2 _ fun w B3 H3 s3 j3 h3 =>
    hr B3 ((e0.trans s2.bb).trans s3.bb) H3 v w j3 (hu v B2 B3 s3.bb h2) h3 Q fun z B4 H4 s4 j4 h4 => q z B4 H4 ((s2.trans s3).trans s4) j4 h4
theorem ed_op {r : R2} (ha : ED F K ta σ B x) (hb : ED F K tb σ B y) (hr : RD2 F K r B x y z) : ED F K (tOp r ta tb) σ B z := ev_op ha hb upc_dd hr
theorem ev_cb {r : List V → Hp → VK → Prop} (h : EVs F tas σ B Ps) (hr : RVc F r B Ps Z) : EV F (tCB r tas) σ B Z := fun B1 e0 H j Q q =>
  h B1 e0 H j _ fun vs B2 H2 s2 j2 h2 => hr B2 (e0.trans s2.bb) H2 vs j2 h2 Q fun w B3 H3 s3 j3 h3 => q w B3 H3 (s2.trans s3) j3 h3
theorem ev_call {sp : Sp} {E : XK} (h : EVs F tas σ B Ps) (hr : RVc F (fun vs H Q => sp vs H Q E) B Ps Z) : EV F (tCall sp [] E tas) σ B Z := fun B1 e0 H j Q q =>
  h B1 e0 H j _ fun vs B2 H2 s2 j2 h2 => by
    show sp (vs ++ []) H2 Q E
    rw [List.append_nil]
    exact hr B2 (e0.trans s2.bb) H2 vs j2 h2 Q fun w B3 H3 s3 j3 h3 => q w B3 H3 (s2.trans s3) j3 h3
theorem ev_if (h : ETt F t σ B b) (h1 : b = true → EV F ta σ B P) (h2 : b = false → EV F tb σ B P) : EV F (tIf t ta tb) σ B P := fun B1 e0 H j Q q => h B1 e0 H j _ fun B2 H2 s2 j2 => by
  cases b with
  | true =>
    show ta σ H2 Q
    exact h1 rfl B2 (e0.trans s2.bb) H2 j2 Q fun v B3 H3 s3 j3 g => q v B3 H3 (s2.trans s3) j3 g
  | false =>
    show tb σ H2 Q
    exact h2 rfl B2 (e0.trans s2.bb) H2 j2 Q fun v B3 H3 s3 j3 g => q v B3 H3 (s2.trans s3) j3 g
theorem ed_andV (h1 : ED F K ta σ B (.bool b)) (h2 : b = true → ED F K tb σ B (.bool c)) : ED F K (tAndV ta tb) σ B (.bool (b && c)) := fun B1 e0 H j Q q => h1 B1 e0 H j _ fun v B2 H2 s2 j2 g => ⟨b, dd_bl g, by
  cases b with
  | true =>
    show tb σ H2 Q
    exact h2 rfl B2 (e0.trans s2.bb) H2 j2 Q fun v B3 H3 s3 j3 g => q v B3 H3 (s2.trans s3) j3 g
  | false =>
    show Q (.bl false) H2
    exact q _ B2 H2 s2 j2 (.bl false)⟩
theorem ed_orV (h1 : ED F K ta σ B (.bool b)) (h2 : b = false → ED F K tb σ B (.bool c)) : ED F K (tOrV ta tb) σ B (.bool (b || c)) := fun B1 e0 H j Q q => h1 B1 e0 H j _ fun v B2 H2 s2 j2 g => ⟨b, dd_bl g, by
  cases b with
  | true =>
    show Q (.bl true) H2
    exact q _ B2 H2 s2 j2 (.bl true)
  | false =>
    show tb σ H2 Q
    exact h2 rfl B2 (e0.trans s2.bb) H2 j2 Q fun v B3 H3 s3 j3 g => q v B3 H3 (s2.trans s3) j3 g⟩
/-- a < b < c -/
theorem ed_chain {r r' : R2} (ha : ED F K ta σ B x) (hb : ED F K tb σ B y) (hr : RD2 F K r B x y (.bool b)) (h2 : b = true → ∃ z, ED F K tc σ B z ∧ RD2 F K r' B y z (.bool c)) : ED F K (tChain r r' ta tb tc) σ B (.bool (b && c)) := fun B1 e0 H j Q q =>
  ha B1 e0 H j _ fun v B2 H2 s2 j2 h2' => hb B2 (e0.trans s2.bb) H2 j2 _ fun w B3 H3 s3 j3 h3 => hr B3 ((e0.trans s2.bb).trans s3.bb) H3 v w j3 (Dd.up h2' s3.bb) h3 _ fun z B4 H4 s4 j4 h4 => ⟨b, dd_bl h4, by
    cases b with
    | true =>
      obtain ⟨z, hc, hr2⟩ := h2 rfl
      show tc σ H4 _
      exact hc B4 (((e0.trans s2.bb).trans s3.bb).trans s4.bb) H4 j4 _ fun u B5 H5 s5 j5 h5 => hr2 B5 ((((e0.trans s2.bb).trans s3.bb).trans s4.bb).trans s5.bb) H5 w u j5 (Dd.up h3 (s4.bb.trans s5.bb)) h5 Q fun t B6 H6 s6 j6 h6 => q t B6 H6 ((((s2.trans s3).trans s4).trans s5).trans s6) j6 h6
    | false =>
      show Q (.bl false) H4
      exact q _ B4 H4 ((s2.trans s3).trans s4) j4 (.bl false)⟩
theorem ed_notV (h1 : ED F K ta σ B (.bool b)) : ED F K (tNotV ta) σ B (.bool (!b)) := fun B1 e0 H j Q q => h1 B1 e0 H j _ fun v B2 H2 s2 j2 g => ⟨b, dd_bl g, q _ B2 H2 s2 j2 (.bl _)⟩
/-! tests -/
theorem et_cmp (h : ED F K te σ B (.bool b)) : ETt F (tTest te) σ B b := fun B1 e0 H j Q q => h B1 e0 H j _ fun v B2 H2 s2 j2 g => ⟨b, dd_bl g, q B2 H2 s2 j2⟩
theorem et_val (h : ED F K te σ B (.bool b)) : ETt F (tB te) σ B b := fun B1 e0 H j Q q => h B1 e0 H j _ fun v B2 H2 s2 j2 g => ⟨b, dd_bl g, q B2 H2 s2 j2⟩
theorem et_not (h : ETt F t σ B b) : ETt F (tNot t) σ B (!b) := fun B1 e0 H j Q q => h B1 e0 H j _ fun B2 H2 s2 j2 => q B2 H2 s2 j2
theorem et_and (h1 : ETt F t σ B b) (h2 : b = true → ETt F u σ B c) : ETt F (tAnd t u) σ B (b && c) := fun B1 e0 H j Q q => h1 B1 e0 H j _ fun B2 H2 s2 j2 => by
  cases b with
  | true =>
    show u σ H2 Q
    exact h2 rfl B2 (e0.trans s2.bb) H2 j2 Q fun B3 H3 s3 j3 => q B3 H3 (s2.trans s3) j3
  | false =>
    show Q false H2
    exact q B2 H2 s2 j2
theorem et_or (h1 : ETt F t σ B b) (h2 : b = false → ETt F u σ B c) : ETt F (tOr t u) σ B (b || c) := fun B1 e0 H j Q q => h1 B1 e0 H j _ fun B2 H2 s2 j2 => by
  cases b with
  | true =>
    show Q true H2
    exact q B2 H2 s2 j2
  | false =>
    show u σ H2 Q
    exact h2 rfl B2 (e0.trans s2.bb) H2 j2 Q fun B3 H3 s3 j3 => q B3 H3 (s2.trans s3) j3
theorem PW_or3 {t1 t2 t3 : TT} (h1 : ETt F t1 σ B false) (h2 : ETt F t2 σ B false) (h3 : ETt F t3 σ B false) : ETt F (tOr t1 (tOr t2 t3)) σ B false := et_or h1 fun _ => et_or h2 fun _ => h3
/-- a value's truth -/
def tru : PyData → Bool
  | .none => false
  | .bool b => b
  | .int i => i != 0
  | .str x => (x.length : Int) != 0
  | .list ds => !ds.isEmpty
  | .tuple ds => !ds.isEmpty
  | .dict kvs => !kvs.isEmpty
theorem DdAll.emp {K : PySem.W.Frag} {H : Hp} {vs : List V} {ds : List PyData} (h : DdAll K H vs ds) : (!vs.isEmpty) = !ds.isEmpty := by cases h <;> rfl
theorem truV {K : PySem.W.Frag} {H : Hp} {v : V} {d : PyData} (h : Dd K H v d) : TruV K v H (tru d) := by
  cases h with
  | non => exact rfl
  | bl b => exact rfl
  | int i => exact rfl
  | str x hl => exact ⟨hl, rfl⟩
  | lst hs hl ha => exact .inl ⟨_, sq_of hs, (DdAll.emp ha).symm⟩
  | tup hs hl ha => exact .inr (.inl ⟨_, hs.sq, (DdAll.emp ha).symm⟩)
theorem et_tru (h : ED F K te σ B d) : ETt F (fun σ H Q => te σ H fun x H' => ∃ k, TruV K x H' k ∧ Q k H') σ B (tru d) := fun B1 e0 H j Q q => h B1 e0 H j _ fun v B2 H2 s2 j2 g => ⟨tru d, truV (Dd.up g s2.bh), q B2 H2 s2 j2⟩
end

/-! ### operations -/
section
variable {F : Fm} {K : PySem.W.Frag} {B : Hp} {i j : Int} {x y z d : PyData} {ds es xs : List PyData}
/-- an operation that makes nothing -/
theorem rd_of {r : R2} (h : ∀ H u v, Dd K H u x → Dd K H v y → ∃ w, (∀ H', Dd K H' w z) ∧ ∀ Q : VK, Q w H → r u v H Q) : RD2 F K r B x y z := fun B1 e0 H u v jj hu hv Q q => by
  obtain ⟨w, hw, hq⟩ := h H u v (Dd.up hu jj.e) (Dd.up hv jj.e)
  exact hq Q (q w B1 H (Step.refl jj.e) jj (hw B1))
/-- + of ints, texts, lists, tuples -/
def rAddA (K : PySem.W.Frag) : R2 := fun x y H Q => rI0 (fun i j => .int (i + j)) x y H Q ∨ (∃ i j, x = .str i ∧ y = .str j ∧ i.length + j.length ≤ sizeLine ∧ Q (.str (i ++ j)) H) ∨ rCat x y H Q ∨ rCatA K x y H Q
theorem op_addA {X : Cx} : OpR X (binaryOp .Add) (rAddA X.K) := op_add.or (op_add_str.or (op_cat.or op_catA))
theorem rd_add : RD2 F K (rAddA K) B (.int i) (.int j) (.int (i + j)) := rd_of fun H u v hu hv => ⟨.int (i + j), fun _ => .int _, fun Q q => .inl ⟨i, j, dd_int hu, dd_int hv, q⟩⟩
theorem str_app_len (a b : Str) : (a ++ b).length = a.length + b.length := by
  show (a.cps ++ b.cps).size = a.cps.size + b.cps.size
  exact Array.size_append
theorem rd_addS {a b : Str} (hl : a.length + b.length ≤ 16777216) : RD2 F K (rAddA K) B (.str a) (.str b) (.str (a ++ b)) := rd_of fun H u v hu hv =>
  ⟨.str (a ++ b), fun _ => .str _ (by rw [str_app_len, sizeLine_eq]; exact hl), fun Q q => .inr (.inl ⟨a, b, (dd_str hu).1, (dd_str hv).1, by rw [sizeLine_eq]; exact hl, q⟩)⟩
/-- + of lists: what their items are is kept -/
theorem rv_addL {a b : Addr} {vs us : List V} (hl : vs.length + us.length ≤ 16777216) {Z : PV} (hz : ∀ p B1, Ex B B1 → B1 p = none → Z (.ref p) (upd B1 p (.lst (vs ++ us)))) :
    RV2 F (rAddA K) B (fun v B => v = .ref a ∧ B a = some (.lst vs)) (fun v B => v = .ref b ∧ B b = some (.lst us)) Z := fun B1 e0 H u v jj ⟨hu, h1⟩ ⟨hv, h2⟩ Q q =>
  .inr (.inr (.inl ⟨a, b, vs, us, hu, hv, jj.e _ _ h1, jj.e _ _ h2, by rw [sizeLine_eq]; exact hl, fun p hp => q _ _ _ (Step.alloc jj.e hp) (jj.alloc hp) (hz p B1 e0 (fresh_back jj.e hp))⟩))
theorem rd_addL (hl : ds.length + es.length ≤ 16777216) : RD2 F K (rAddA K) B (.list ds) (.list es) (.list (ds ++ es)) := fun B1 e0 H u v jj hu hv Q q => by
  obtain ⟨a, xs, rfl, h1, l1, g1⟩ := dd_lst hu
  obtain ⟨b, ys, rfl, h2, l2, g2⟩ := dd_lst hv
  have hz : xs.length + ys.length ≤ sizeLine := by rw [g1.len, g2.len, sizeLine_eq]; exact hl
  exact .inr (.inr (.inl ⟨a, b, xs, ys, rfl, rfl, jj.e _ _ h1, jj.e _ _ h2, hz, fun p hp => q _ _ _ (Step.alloc jj.e hp) (jj.alloc hp) (.lst upd_same (by rw [List.length_append]; exact hz) ((g1.app g2).up (Ex.new (fresh_back jj.e hp))))⟩))
theorem rd_addT (hl : ds.length + es.length ≤ 16777216) : RD2 F K (rAddA K) B (.tuple ds) (.tuple es) (.tuple (ds ++ es)) := fun B1 e0 H u v jj hu hv Q q => by
  obtain ⟨a, xs, rfl, h1, l1, g1⟩ := dd_tup hu
  obtain ⟨b, ys, rfl, h2, l2, g2⟩ := dd_tup hv
  have hz : xs.length + ys.length ≤ sizeLine := by rw [g1.len, g2.len, sizeLine_eq]; exact hl
  refine .inr (.inr (.inr ⟨a, b, xs, ys, rfl, rfl, ex_t jj.e h1, ex_t jj.e h2, hz, fun e => ?_, fun _ e => ?_, fun _ _ p hp => q _ _ _ (Step.alloc jj.e hp) (jj.alloc hp) (.tup (ta_of upd_same) (by rw [List.length_append]; exact hz) ((g1.app g2).up (Ex.new (fresh_back jj.e hp))))⟩))
  · subst e
    cases g1
    exact q _ B1 H (Step.refl jj.e) jj hv
  · subst e
    cases g2
    rw [List.append_nil] at q
    exact q _ B1 H (Step.refl jj.e) jj hu
theorem rd_I0 {g : Int → Int → Int} : RD2 F K (rI0 fun i j => .int (g i j)) B (.int i) (.int j) (.int (g i j)) := rd_of fun H u v hu hv => ⟨.int (g i j), fun _ => .int _, fun Q q => ⟨i, j, dd_int hu, dd_int hv, q⟩⟩
theorem rd_I {C : Int → Int → Prop} {g : Int → Int → Int} (hc : C i j) : RD2 F K (rI C fun i j => .int (g i j)) B (.int i) (.int j) (.int (g i j)) := rd_of fun H u v hu hv => ⟨.int (g i j), fun _ => .int _, fun Q q => ⟨i, j, dd_int hu, dd_int hv, hc, q⟩⟩
theorem rd_sub : RD2 F K (rI0 fun i j => .int (i - j)) B (.int i) (.int j) (.int (i - j)) := rd_I0 (g := fun i j => i - j)
theorem rd_mul (hc : CMul i j) : RD2 F K (rI CMul fun i j => .int (i * j)) B (.int i) (.int j) (.int (i * j)) := rd_I (g := fun i j => i * j) hc
theorem rd_mod (hc : 0 < j) : RD2 F K (rI (fun _ j => 0 < j) fun i j => .int (i % j)) B (.int i) (.int j) (.int (i % j)) := rd_I (C := fun _ j => 0 < j) (g := fun i j => i % j) hc
theorem rd_fdiv (hc : CDiv i j) : RD2 F K (rI CDiv fun i j => .int (i / j)) B (.int i) (.int j) (.int (i / j)) := rd_I (g := fun i j => i / j) hc
theorem rd_pow (hc : CPow i j) : RD2 F K (rI CPow fun i j => .int (i ^ j.toNat)) B (.int i) (.int j) (.int (i ^ j.toNat)) := rd_I (g := fun i j => i ^ j.toNat) hc
theorem rd_cmp {p : Int → Int → Bool} : RD2 F K (rI0 fun i j => .bl (p i j)) B (.int i) (.int j) (.bool (p i j)) := rd_of fun H u v hu hv => ⟨.bl (p i j), fun _ => .bl _, fun Q q => ⟨i, j, dd_int hu, dd_int hv, q⟩⟩
theorem rd_lt : RD2 F K (rI0 fun i j => .bl (decide (i < j))) B (.int i) (.int j) (.bool (decide (i < j))) := rd_cmp (p := fun i j => decide (i < j))
theorem rd_le : RD2 F K (rI0 fun i j => .bl (decide (i ≤ j))) B (.int i) (.int j) (.bool (decide (i ≤ j))) := rd_cmp (p := fun i j => decide (i ≤ j))
theorem rd_gt : RD2 F K (rI0 fun i j => .bl (decide (j < i))) B (.int i) (.int j) (.bool (decide (j < i))) := rd_cmp (p := fun i j => decide (j < i))
theorem rd_ge : RD2 F K (rI0 fun i j => .bl (decide (j ≤ i))) B (.int i) (.int j) (.bool (decide (j ≤ i))) := rd_cmp (p := fun i j => decide (j ≤ i))
theorem rd_eqD (hx : SeqAt.shaped x = true) (hy : SeqAt.shaped y = true) : RD2 F K (rEqD K) B x y (.bool (PyData.eqv x y)) := rd_of fun H u v hu hv => ⟨.bl _, fun _ => .bl _, fun Q q => ⟨x, y, Dd.dp _ _ hu, Dd.dp _ _ hv, hx, hy, q⟩⟩
theorem rd_neD (hx : SeqAt.shaped x = true) (hy : SeqAt.shaped y = true) : RD2 F K (rNeD K) B x y (.bool (!PyData.eqv x y)) := rd_of fun H u v hu hv => ⟨.bl _, fun _ => .bl _, fun Q q => ⟨x, y, Dd.dp _ _ hu, Dd.dp _ _ hv, hx, hy, q⟩⟩
def isNon : PyData → Bool
  | .none => true
  | _ => false
theorem dd_isNon {H : Hp} {v : V} (h : Dd K H v d) : decide (v = .non) = isNon d := by
  cases h <;> first | rfl | exact decide_eq_false (fun z => nomatch z)
theorem rd_isN : RD2 F K (fun x y H Q => y = .non ∧ Q (.bl (decide (x = .non))) H) B x .none (.bool (isNon x)) := rd_of fun H u v hu hv => ⟨.bl (isNon x), fun _ => .bl _, fun Q q => ⟨dd_non hv, by
  show Q (.bl (decide (u = .non))) H
  rw [dd_isNon hu]
  exact q⟩⟩
theorem rd_notN : RD2 F K (fun x y H Q => y = .non ∧ Q (.bl (!decide (x = .non))) H) B x .none (.bool (!isNon x)) := rd_of fun H u v hu hv => ⟨.bl (!isNon x), fun _ => .bl _, fun Q q => ⟨dd_non hv, by
  show Q (.bl (!decide (u = .non))) H
  rw [dd_isNon hu]
  exact q⟩⟩
/-- x[i] -/
theorem atI_data {H : Hp} {vs : List V} (h : DdAll K H vs ds) (e : atI ds i = some d) : ∃ v, atI vs i = some v ∧ Dd K H v d := by
  unfold atI at e ⊢
  rw [h.len]
  obtain ⟨j, e1, e2⟩ := Option.bind_eq_some_iff.mp e
  obtain ⟨v, h1, h2⟩ := h.get e2
  exact ⟨v, by rw [e1]; exact h1, h2⟩
theorem rd_ixT (e : atI ds i = some d) : RD2 F K (rIx K) B (.tuple ds) (.int i) d := fun B1 e0 H u v jj hu hv Q q => by
  obtain ⟨a, xs, rfl, h1, l1, g1⟩ := dd_tup hu
  obtain ⟨w, e2, h2⟩ := atI_data g1 e
  exact .inr (.inl ⟨a, xs, i, w, rfl, dd_int hv, ex_t jj.e h1, e2, q _ B1 H (Step.refl jj.e) jj h2⟩)
theorem rd_ixL (e : atI ds i = some d) : RD2 F K (rIx K) B (.list ds) (.int i) d := fun B1 e0 H u v jj hu hv Q q => by
  obtain ⟨a, xs, rfl, h1, l1, g1⟩ := dd_lst hu
  obtain ⟨w, e2, h2⟩ := atI_data g1 e
  exact .inl ⟨a, xs, i, w, rfl, dd_int hv, sq_of (jj.e _ _ h1), e2, q _ B1 H (Step.refl jj.e) jj h2⟩
theorem rd_ixS {s : Str} {c : Nat} (e : atI s.cps.toList i = some c) : RD2 F K (rIx K) B (.str s) (.int i) (.str ⟨#[c]⟩) := fun B1 e0 H u v jj hu hv Q q => by
  obtain ⟨rfl, hl⟩ := dd_str hu
  exact .inr (.inr ⟨s, i, c, rfl, dd_int hv, hl, e, q _ B1 H (Step.refl jj.e) jj (.str _ (by show 1 ≤ sizeLine; decide))⟩)
/-- calls of built-ins -/
theorem rc_of {r : List V → Hp → VK → Prop} (h : ∀ H u, Dd K H u x → ∃ w, (∀ H', Dd K H' w z) ∧ ∀ Q : VK, Q w H → r [u] H Q) : RDc F K r B [x] z := fun B1 e0 H us jj hu Q q => by
  cases hu with
  | cons a t =>
    cases t
    obtain ⟨w, hw, hq⟩ := h H _ (Dd.up a jj.e)
    exact hq Q (q w B1 H (Step.refl jj.e) jj (hw B1))
def lenD : PyData → Int
  | .str x => (x.length : Nat)
  | .list ds => (ds.length : Nat)
  | .tuple ds => (ds.length : Nat)
  | _ => 0
def hasLen : PyData → Bool
  | .str _ => true
  | .list _ => true
  | .tuple _ => true
  | _ => false
theorem rc_len (h : hasLen x = true) : RDc F K (fun xs H Q => ∃ x n, xs = [x] ∧ LenV K x H n ∧ Q (.int (n : Nat)) H) B [x] (.int (lenD x)) := rc_of fun H u hu => by
  cases hu with
  | str s hl => exact ⟨.int (s.length : Nat), fun _ => .int _, fun Q q => ⟨_, s.length, rfl, ⟨hl, rfl⟩, q⟩⟩
  | @lst a xs ds hs hl ha => exact ⟨.int (ds.length : Nat), fun _ => .int _, fun Q q => ⟨_, ds.length, rfl, .inl ⟨xs, sq_of hs, ha.len.symm⟩, q⟩⟩
  | @tup a xs ds hs hl ha => exact ⟨.int (ds.length : Nat), fun _ => .int _, fun Q q => ⟨_, ds.length, rfl, .inr ⟨xs, hs.sq, ha.len.symm⟩, q⟩⟩
  | _ => cases h
theorem rc_int1 : RDc F K (fun xs H Q => (∃ i, xs = [.int i] ∧ Q (.int i) H) ∨ ∃ k, xs = [.bl k] ∧ Q (.int (if k then 1 else 0)) H) B [.int i] (.int i) := rc_of fun H u hu => by
  cases hu
  exact ⟨.int i, fun _ => .int _, fun Q q => .inl ⟨i, rfl, q⟩⟩
theorem rc_intB {k : Bool} : RDc F K (fun xs H Q => (∃ i, xs = [.int i] ∧ Q (.int i) H) ∨ ∃ k, xs = [.bl k] ∧ Q (.int (if k then 1 else 0)) H) B [.bool k] (.int (if k then 1 else 0)) := rc_of fun H u hu => by
  cases hu
  exact ⟨.int (if k then 1 else 0), fun _ => .int _, fun Q q => .inr ⟨k, rfl, q⟩⟩
theorem rc_abs : RDc F K (fun xs H Q => ∃ i, xs = [.int i] ∧ Q (.int (if i < 0 then -i else i)) H) B [.int i] (.int (if i < 0 then -i else i)) := rc_of fun H u hu => by
  cases hu
  exact ⟨.int _, fun _ => .int _, fun Q q => ⟨i, rfl, q⟩⟩
theorem rc_str (hl : i.natAbs.log2 < 1920) (hz : (toString i : Str).length ≤ 16777216) : RDc F K (fun xs H Q => ∃ i : Int, xs = [.int i] ∧ i.natAbs.log2 < 1920 ∧ Q (.str (toString i)) H) B [.int i] (.str (toString i)) := rc_of fun H u hu => by
  cases hu
  exact ⟨.str _, fun _ => .str _ (by rw [sizeLine_eq]; exact hz), fun Q q => ⟨i, rfl, hl, q⟩⟩
/-- isinstance(x, T), T a built-in class -/
def tyD : PyData → String
  | .none => "NoneType"
  | .bool _ => "bool"
  | .int _ => "int"
  | .str _ => "str"
  | .list _ => "list"
  | .tuple _ => "tuple"
  | .dict _ => "dict"
def isIntD : PyData → Bool
  | .int _ => true
  | .bool _ => true
  | _ => false
def isBoolD : PyData → Bool
  | .bool _ => true
  | _ => false
def isStrD : PyData → Bool
  | .str _ => true
  | _ => false
def isTupD : PyData → Bool
  | .tuple _ => true
  | _ => false
def isLstD : PyData → Bool
  | .list _ => true
  | _ => false
theorem kit_int (d : PyData) : kitB (tyD d) "int" = some (isIntD d) := by
  cases d <;> (dsimp only [tyD, isIntD]; decide +kernel)
theorem kit_bool (d : PyData) : kitB (tyD d) "bool" = some (isBoolD d) := by
  cases d <;> (dsimp only [tyD, isBoolD]; decide +kernel)
theorem kit_str (d : PyData) : kitB (tyD d) "str" = some (isStrD d) := by
  cases d <;> (dsimp only [tyD, isStrD]; decide +kernel)
theorem kit_tup (d : PyData) : kitB (tyD d) "tuple" = some (isTupD d) := by
  cases d <;> (dsimp only [tyD, isTupD]; decide +kernel)
theorem kit_lst (d : PyData) : kitB (tyD d) "list" = some (isLstD d) := by
  cases d <;> (dsimp only [tyD, isLstD]; decide +kernel)
theorem tyX {H : Hp} {v : V} (h : Dd K H v d) : TyX K H v (.type (tyD d)) := by
  cases h with
  | non => exact .base .non
  | bl b => exact .base (.bl b)
  | int i => exact .base (.int i)
  | str x hl => exact .base (.str x)
  | lst hs hl ha => exact .base (.lst hs)
  | tup hs hl ha =>
    rcases hs with hs | ⟨o, its, n, hk, hc, _⟩
    · exact .base (.tup hs)
    · exact .kTuple hk hc
theorem ed_isi {σ : L2.St} {te : TE} {T : String} {b : Bool} (h : ED F K te σ B d) (hb : kitB (tyD d) T = some b) : ED F K (tCB (rIsi K) (tCons te (tCons (tC (.ty T)) tNil))) σ B (.bool b) := fun B1 e0 H jj Q q =>
  h B1 e0 H jj _ fun v B2 H2 s2 j2 g => ⟨v, .ty T, _, _, b, rfl, .ty T, tyX (Dd.up g s2.bh), kit_ty hb, q _ B2 H2 s2 j2 (.bl b)⟩
end

/-! ### where a def's body stands: behind the entry (B0, H0), at (B, H) -/
structure At (F : Fm) (B0 H0 B H : Hp) : Prop where
  st : Step F.M B0 H0 B H
  j : Ok F B H
theorem At.start {F : Fm} {B H : Hp} (k : Ok F B H) : At F B H B H := ⟨Step.refl k.e, k⟩
theorem At.next {F : Fm} {B0 H0 B H B1 H1 : Hp} (a : At F B0 H0 B H) (s : Step F.M B H B1 H1) (j : Ok F B1 H1) : At F B0 H0 B1 H1 := ⟨a.st.trans s, j⟩
theorem At.e {F : Fm} {B0 H0 B H : Hp} (a : At F B0 H0 B H) : Ex B H := a.st.bh
section
variable {F : Fm} {K : PySem.W.Frag} {σ : L2.St} {B0 H0 B H : Hp} {te ta tb tc : TE} {tas : TA} {t u : TT} {d x y z : PyData} {ds : List PyData} {b c : Bool} {D : Ends} {tz tu tw : TS} {i : Nat} {P : PV}
theorem sv_asg (a : At F B0 H0 B H) (h : EV F te σ B P) (k : ∀ v B1 H1, Ex B B1 → At F B0 H0 B1 H1 → P v B1 → D.nx (σ.set i (some v)) H1) : tAsg te (gName i) D σ H := h B (Ex.refl B) H a.j _ fun v B1 H1 s j p => k v B1 H1 s.bb (a.next s j) p
theorem qv_asg (a : At F B0 H0 B H) (h : EV F te σ B P) (k : ∀ v B1 H1, Ex B B1 → At F B0 H0 B1 H1 → P v B1 → tz D (σ.set i (some v)) H1) : tSeq (tAsg te (gName i)) tz D σ H := sv_asg (D := { D with nx := tz D }) a h k
theorem qv_drop (a : At F B0 H0 B H) (h : EV F te σ B P) (k : ∀ v B1 H1, Ex B B1 → At F B0 H0 B1 H1 → P v B1 → tz D σ H1) : tSeq (tDrop te) tz D σ H := h B (Ex.refl B) H a.j _ fun v B1 H1 s j p => k v B1 H1 s.bb (a.next s j) p
theorem sv_ret (a : At F B0 H0 B H) (h : EV F te σ B P) (k : ∀ v B1 H1, Ex B B1 → At F B0 H0 B1 H1 → P v B1 → D.rt v H1) : tRet te D σ H := h B (Ex.refl B) H a.j _ fun v B1 H1 s j p => k v B1 H1 s.bb (a.next s j) p
theorem sv_retL (a : At F B0 H0 B H) (h : EDs F K tas σ B ds) (k : ∀ vs B1 H1, Step F.M B H B1 H1 → Ok F B1 H1 → DdAll K B1 vs ds → vs.length ≤ sizeLine ∧ ∀ p, H1 p = none → D.rt (.ref p) (upd H1 p (.lst vs))) : tRet (tLst tas) D σ H := h B (Ex.refl B) H a.j _ fun vs B1 H1 s j g => k vs B1 H1 s j g
theorem sv_if (a : At F B0 H0 B H) (h : ETt F t σ B b) (h1 : b = true → ∀ B1 H1, Ex B B1 → At F B0 H0 B1 H1 → tu D σ H1) (h2 : b = false → ∀ B1 H1, Ex B B1 → At F B0 H0 B1 H1 → tw D σ H1) : tIfS t tu tw D σ H := h B (Ex.refl B) H a.j _ fun B1 H1 s j => by
  cases b with
  | true =>
    show tu D σ H1
    exact h1 rfl B1 H1 s.bb (a.next s j)
  | false =>
    show tw D σ H1
    exact h2 rfl B1 H1 s.bb (a.next s j)
theorem qv_if (a : At F B0 H0 B H) (h : ETt F t σ B b) (h1 : b = true → ∀ B1 H1, Ex B B1 → At F B0 H0 B1 H1 → tu { D with nx := tz D } σ H1) (h2 : b = false → ∀ B1 H1, Ex B B1 → At F B0 H0 B1 H1 → tw { D with nx := tz D } σ H1) : tSeq (tIfS t tu tw) tz D σ H := sv_if (D := { D with nx := tz D }) a h h1 h2
/-- if c: return .. (no else) -/
theorem qv_when (a : At F B0 H0 B H) (h : ETt F t σ B b) (h1 : b = true → ∀ B1 H1, Ex B B1 → At F B0 H0 B1 H1 → tu { D with nx := tz D } σ H1) (h2 : b = false → ∀ B1 H1, Ex B B1 → At F B0 H0 B1 H1 → tz D σ H1) : tSeq (tIfS t tu tNext) tz D σ H := qv_if a h h1 h2
end

/-! ### promises: data in, data out, nothing changed -/
/-- called with data ds that pre lets, it gives data f ds -/
def spF (K : PySem.W.Frag) (pre : List PyData → Prop) (f : List PyData → PyData) : Sp := fun vs H Q _ => ∃ (B : Hp) (ds : List PyData), Ex B H ∧ DdAll K B vs ds ∧ pre ds ∧ ∀ v B' H', Step (fun _ => False) B H B' H' → Dd K B' v (f ds) → Q v H'
theorem rc_F {F : Fm} {K : PySem.W.Frag} {pre : List PyData → Prop} {f : List PyData → PyData} {E : XK} {B : Hp} {ds : List PyData} {z : PyData} (h : pre ds) (e : f ds = z) : RDc F K (fun vs H Q => spF K pre f vs H Q E) B ds z := fun B1 e0 H us jj hu Q q =>
  ⟨B1, ds, jj.e, hu, h, fun v B' H' s g => q v B' H' s.pure (jj.pure s) (by rw [← e]; exact g)⟩
theorem ed_F {F : Fm} {K : PySem.W.Frag} {pre : List PyData → Prop} {f : List PyData → PyData} {E : XK} {B : Hp} {ds : List PyData} {z : PyData} {σ : L2.St} {tas : TA} (ha : EDs F K tas σ B ds) (h : pre ds) (e : f ds = z) : ED F K (tCall (spF K pre f) [] E tas) σ B z := ev_call ha (rc_F h e)
end Dx

/-! Exceptions of own classes that are held as values: made, their fields read, asked by isinstance; G.__init__(self, ..), G an own class over ValueError. -/
namespace Ex
open PySem PySem.Spec PyProof.Rows L2
section
variable {X : Cx} {CX : CXT} {G C : Addr} {mc : Value} {o e : Expr} {es : List Expr} {ta : TA} {te : TE} {g x f : Str} {p1 p2 pos p : Pos}
theorem pe_ginit {pl : Sem Bool} (r : ClX.CRead X.K G mc) (k : PySem.W.findCls X.K (.ref G) mc "__init__" = some (.val (.builtin "ValueError.__init__"))) (hg : Gl X g) (hm : X.mg g = some (.ref G)) (ha : PA X (e :: es) ta)
    (hgd : (g == ("__debug__" : Str)) = false := by decide)
    (hc : eval (.Call (.Attribute (.Name g p1) "__init__" p2) (e :: es) [] pos) X.env = (do
      let ov ← eval (.Name g p1) X.env
      standAt p2.atName
      let (f, first) ← holding [ov] (getMethod ov "__init__" pl)
      callWith pos f first (backTo pos (starEach (e :: es) X.env)) (backToKw pos (keywordEach [] X.env))) := by rfl)
    (he : starEach (e :: es) X.env = (false, eval e X.env) :: starEach es X.env := by rfl) (hpl : (backTo pos (starEach es X.env)).any (·.1) = false := by rfl) :
    PE X (.Call (.Attribute (.Name g p1) "__init__" p2) (e :: es) [] pos) (tVeI X.K ta) := by
  refine ⟨fun pins s σ H Q I h => ?_⟩
  refine PySem.W.methodCall_KW (ld_glob I hg hm ?_ hgd) hc
  refine PySem.W.method_cls I.kIn r.ga (PySem.W.cls_value I.kIn r.rd k rfl ?_)
  show wpAny _ _ (callWith pos (Value.builtin "ValueError.__init__") [] (backTo pos (starEach (e :: es) X.env)) []) _ _ _
  refine PyProof.Rows.callWith_method1 (thn (ha.run pos pins _ σ H _ (I.tok _) h) fun us s1 ⟨vs, H1, I1, r1, a, C, ws, ev, hl, T, ea, q⟩ => ?_) he hpl
  subst ev
  cases r1 with
  | @cons _ u0 _ ur ra rw' =>
    obtain rfl : u0 = Value.ref a := ra
    have hlen : ur.length ≤ sizeLine := by
      rw [← Paired.length rw', sizeLine_eq]
      omega
    exact oinit_ok T I1 ea hlen fun s' J => ⟨.non, H1, J, rfl, q⟩
/-- C(e, ..) as a value, C's own __init__ keeping sp: the exception stands at a -/
def tMkV (C : Addr) (sp : Sp) (dvs : List V) (ta : TA) : TE := fun σ H Q => ta σ H fun vs H1 => vs.length ≤ 1000 ∧ ∀ a, H1 a = none → sp (.ref a :: (vs ++ dvs)) (upd H1 a (exo a C none))
  (fun v H2 => v = .non ∧ Q (.ref a) H2) (fun _ _ _ => False)
theorem pe_mkv {C fI : Addr} {k : Nat} {fd : FuncData} {ps : List Str} {sp : Sp} {ds : List Value} {dvs : List V} (T : OexC X.K C) (iC : PySem.W.findIn X.K (.ref C) "__init__" = some (some (.ref fI))) (tI : PySem.W.typeIn X.K (.ref fI) = some (.type "function"))
    (F1 : FnOk X.prog X.w X.K X.mg X.base CX k fI fd ps sp) (hr : Room (k + 1) X.A) (hb : Binds X.K fd ps ds) (hd : Vals dvs ds) (hx : Passes CX X (fun _ _ _ => False)) (hg : Gl X x) (hm : X.mg x = some (.ref C)) (ha : PA X (e :: es) ta)
    (hdb : (x == ("__debug__" : Str)) = false := by decide) (he : starEach (e :: es) X.env = (false, eval e X.env) :: starEach es X.env := by rfl) (hpl : (backTo pos (starEach es X.env)).any (·.1) = false := by rfl) :
    PE X (.Call (.Name x p) (e :: es) [] pos) (tMkV C sp dvs ta) := by
  refine ⟨fun pins s σ H Q I h => ?_⟩
  obtain ⟨nm, q, N, bs, bm, sn, sub, ab, col, dd, k0, k1, k2, k3, k5, hC, hbm⟩ := T.cls
  refine wpAny_Call_Name_kw (ld_glob I hg hm ?_ hdb)
  refine PySem.W.callWith_K (h₀ := X.base) I.ok.mod.kin T.kC (thn (ha.run pos pins s σ H _ I h) fun us s1 ⟨vs, H1, I1, r1, hz, q1⟩ => ⟨I1.kIn, ?_⟩) he hpl
  show wpAny _ _ (call (.ref C) us) _ _ _
  obtain ⟨hp, g, dr, tk, os⟩ := s1
  have hsz : hp.objs.size ≤ hp.objs.size + 1 := Nat.le_succ _
  have hn : H1 (hp.objs.size + 1) = none := I1.hok.fresh hsz
  have hq := q1 (hp.objs.size + 1) hn
  have kk : ∀ b o, hp.get? b = some o → ((hp.push (PySem.W.kdv_tup us)).push (PySem.HandSPX.excO C hp.objs.size)).get? b = some o := fun b o e => Heap.get?_push_of_some _ (Heap.get?_push_of_some _ e)
  have hget : ((hp.push (PySem.W.kdv_tup us)).push (PySem.HandSPX.excO C hp.objs.size)).get? (hp.objs.size + 1) = some (PySem.HandSPX.excO C hp.objs.size) := by heap_get
  have I2 : Inv X pins σ (upd H1 (hp.objs.size + 1) (exo (hp.objs.size + 1) C none)) ⟨(hp.push (PySem.W.kdv_tup us)).push (PySem.HandSPX.excO C hp.objs.size), g, dr, tk, os⟩ :=
    I1.laid (t' := tk) (a := hp.objs.size + 1) (o := exo (hp.objs.size + 1) C none) (h' := (hp.push (PySem.W.kdv_tup us)).push (PySem.HandSPX.excO C hp.objs.size)) kk hsz (exo_ok hget)
  have r2 : Vals (V.ref (hp.objs.size + 1) :: (vs ++ dvs)) (Value.ref (hp.objs.size + 1) :: (us ++ ds)) := .cons rfl (r1.append hd)
  have hl : (Value.ref (hp.objs.size + 1) :: us ++ ds).length = ps.length := by
    have e := r2.length
    rw [F1.len _ _ _ _ hq] at e
    exact e.symm
  have hus : us.length ≤ sizeLine := by
    rw [← Paired.length r1, sizeLine_eq]
    omega
  refine wpAny_call (PySem.HandSPX.call_own F.excBase_ValueError (fun Y => PySem.HandSPX.refsVE_contains Y bm hbm) (I1.kIn _ _ hC) (PySem.W.looks_findIn I1.kIn iC) (fun self => PySem.W.bind_fn I1.kIn self tI) hus
    (codeAny_mono (F1.run _ X.stack _ _ ⟨Value.ref (hp.objs.size + 1) :: us, []⟩ (Value.ref (hp.objs.size + 1) :: (us ++ ds)) _ _ (fun _ _ _ => False) (hr.make C us []) (I2.env0.make C us []) (hb _ (Value.ref (hp.objs.size + 1) :: us) I2.kIn hl) r2 hq) fun r s' hq' => ?_))
  cases r with
  | error er => exact hx pins σ _ _ er s' I2 hq'
  | ok fl =>
    cases fl with
    | ret u =>
      obtain ⟨v, H2, I3, rv, ev, q2⟩ := I2.after hq'
      subst ev
      exact ⟨rv, ⟨V.ref (hp.objs.size + 1), H2, I3, rfl, q2⟩⟩
    | next => exact False.elim hq'
    | brk => exact False.elim hq'
    | cont => exact False.elim hq'
/-- e.f, e an exception that is held as a value -/
def tOxf (K : PySem.W.Frag) (f : Str) (te : TE) : TE := fun σ H Q => te σ H fun x H1 => ∃ (a C d : Addr) (fs : List (Str × V)) (v : V), x = .ref a ∧ H1 a = some (exo a C (some d)) ∧ H1 d = some (exd d fs) ∧ XfC K C ∧ PySem.W.findIn K (.ref C) f = some none ∧ fs.lookup f = some v ∧ Q v H1
theorem pe_oxf (he : PE X e te) (hb : attributeBase e f X.env (eval e X.env) = eval e X.env := by rfl) : PE X (.Attribute e f pos) (tOxf X.K f te) := by
  refine ⟨fun pins s σ H Q I h => ?_⟩
  refine attr_of hb (thn (he.run pins s σ H _ I h) fun u s1 hh => ?_)
  obtain ⟨x, H1, I1, rx, a, C, dd, fs, v, ex, ea, ed, T, hno, l, q⟩ := hh
  subst ex
  obtain rfl : u = Value.ref a := rx
  obtain ⟨t1, ha⟩ := exo_at I1.hok ea
  obtain ⟨mA, hns, hr⟩ := exd_at I1.hok ed
  obtain ⟨od, ho, hl⟩ := lookIn_ns hns
  obtain ⟨u, hu, ru⟩ := RelO.some_of (v := v) (o := mA f) (by rw [← l]; exact hr f)
  have J : PySem.W.InstAt s1.heap a _ C (some od) := ⟨ha, rfl, rfl, ho⟩
  exact HandSPX.exc_get I1.kIn J T.ga T.gg T.exC (PySem.W.findObj_own T.hdC hno rfl (by rw [hl, hu])) (handed_of ru) ⟨v, H1, I1.tok _, ru, q⟩
/-- what the class C must say, so that isinstance asks its instances rightly -/
structure IsC (K : PySem.W.Frag) (C : Addr) : Prop where
  hc : (PySem.W.clsIn K C).isSome = true
  ha : PySem.W.findIn K (.ref C) "__class__" = some (some (.builtin "object.__class__"))
  hn : PySem.W.specialIn K (.builtin "object.__class__") "__get__" = some (some (.builtin "getset_descriptor.__get__"))
  ht : PySem.W.takesIn K (.builtin "object.__class__") = some true
  hm : PySem.W.mroIn K C (.type "object") = some true
def isCB (K : PySem.W.Frag) (C : Addr) : Bool := (PySem.W.clsIn K C).isSome && (decide (PySem.W.findIn K (.ref C) "__class__" = some (some (.builtin "object.__class__"))) && (decide (PySem.W.specialIn K (.builtin "object.__class__") "__get__" = some (some (.builtin "getset_descriptor.__get__"))) && (decide (PySem.W.takesIn K (.builtin "object.__class__") = some true) && decide (PySem.W.mroIn K C (.type "object") = some true))))
theorem isCB_ok {K : PySem.W.Frag} {C : Addr} (h : isCB K C = true) : IsC K C := by
  obtain ⟨h1, h⟩ := Bool.and_eq_true_iff.mp h
  obtain ⟨h2, h⟩ := Bool.and_eq_true_iff.mp h
  obtain ⟨h3, h⟩ := Bool.and_eq_true_iff.mp h
  obtain ⟨h4, h5⟩ := Bool.and_eq_true_iff.mp h
  exact ⟨h1, of_decide_eq_true h2, of_decide_eq_true h3, of_decide_eq_true h4, of_decide_eq_true h5⟩
/-- isinstance(e, c), e an exception that is held as a value -/
def rIsX (K : PySem.W.Frag) : List V → Hp → VK → Prop := fun xs H Q => ∃ (a C d : Addr) (fs : List (Str × V)) (c : V) (cv : Value) (b : Bool), xs = [.ref a, c] ∧ H a = some (exo a C (some d)) ∧ H d = some (exd d fs) ∧ XfC K C ∧ IsC K C ∧ ClsV c cv ∧ PySem.W.kitOne K (.ref C) cv = some b ∧ Q (.bl b) H
theorem call_isX : CallR X (.builtin "isinstance") (rIsX X.K) := by
  intro pins s σ H xs us Q I r h
  obtain ⟨a, C, d, fs, c, cv, b, rfl, ea, ed, T, Z, hcv, e, q⟩ := h
  obtain ⟨u1, u2, rfl, r1, r2⟩ := vals2 r
  have e2 := hcv.eq r2
  subst e2
  obtain rfl : u1 = Value.ref a := r1
  obtain ⟨t1, ha⟩ := exo_at I.hok ea
  obtain ⟨mA, hns, hr⟩ := exd_at I.hok ed
  obtain ⟨od, ho, hl⟩ := lookIn_ns hns
  have J : PySem.W.InstAt s.heap a _ C (some od) := ⟨ha, rfl, rfl, ho⟩
  exact PySem.W.kia_one (PySem.W.kitx_exc Z.hc T.ga T.gg T.exC Z.ha Z.hn Z.ht Z.hm) I.kIn J e (fun z => nomatch z) fun tk => ⟨.bl b, H, I.tok tk, rfl, q⟩
/-- isinstance(e, c), e the exception that the suite holds (its own dict at d) -/
def rIsS (K : PySem.W.Frag) (D a : Addr) : List V → Hp → VK → Prop := fun xs H Q => ∃ (c : V) (cv : Value) (b : Bool), xs = [.ref a, c] ∧ ClsV c cv ∧ PySem.W.kitOne K (.ref D) cv = some b ∧ Q (.bl b) H
/-- .. with an own dict -/
def rIsSd (K : PySem.W.Frag) (a : Addr) (cls : Value) (d : Option Addr) : List V → Hp → VK → Prop := fun xs H Q => ∃ (D dd : Addr) (fs : List (Str × V)) (c : V) (cv : Value) (b : Bool), xs = [.ref a, c] ∧ cls = .ref D ∧ d = some dd ∧ H dd = some (.xd fs) ∧ XfC K D ∧ IsC K D ∧ ClsV c cv ∧ PySem.W.kitOne K (.ref D) cv = some b ∧ Q (.bl b) H
theorem call_isSd {a : Addr} {oe : Obj} {cls : Value} {d : Option Addr} {pn : List (Addr × Obj)} (hz : Zc cls d oe) (hf : ∃ vs, oe.data = .fields vs) : CallR (X.suite a ((a, oe) :: pn)) (.builtin "isinstance") (rIsSd X.K a cls d) := by
  intro pins s σ H xs us Q I r h
  obtain ⟨D, dd, fs, c, cv, b, rfl, ec, ed, hd, T, Z, hcv, e, q⟩ := h
  obtain ⟨u1, u2, rfl, r1, r2⟩ := vals2 r
  have e2 := hcv.eq r2
  subst e2
  obtain rfl : u1 = Value.ref a := r1
  subst ec
  subst ed
  obtain ⟨hget, _⟩ := I.pin (a, oe) (List.mem_append_left _ List.mem_cons_self)
  obtain ⟨vs, hv⟩ := hf
  have hx : ObjOk X.prog X.w H s.heap dd (.xd fs) := I.hok dd _ hd
  obtain ⟨mA, hns, hr⟩ := hx
  obtain ⟨od, ho, hl⟩ := lookIn_ns hns
  have J : PySem.W.InstAt s.heap a oe D (some od) := ⟨hget, hz.1, by unfold PySem.W.notCls; rw [hv] <;> rfl, by rw [hz.2]; exact ho⟩
  exact PySem.W.kia_one (PySem.W.kitx_exc Z.hc T.ga T.gg T.exC Z.ha Z.hn Z.ht Z.hm) I.kIn J e (fun z => nomatch z) fun tk => ⟨.bl b, H, I.kept (t' := tk) fun _ _ z => z, rfl, q⟩
end
end Ex

/-! Loops and comprehensions over data. -/
namespace Dx
open PySem PySem.Spec PyProof.Rows L2 Evl

/-! ### a list or a tuple walked -/
def iSeq (K : PySem.W.Frag) (tl : TE) : TI := fun σ H R => tl σ H fun x H1 => ∃ a, x = .ref a ∧ (((∃ xs, SqL K H1 a xs) ∧ R (Itl K a) H1) ∨ ((∃ xs, SqT K H1 a xs) ∧ R (Itt K a) H1))
theorem pi_seq {X : Cx} {tg l : Expr} {tl : TE} (hl : PE X l tl) : PI X tg l (iSeq X.K tl) := by
  refine ⟨fun pins s σ H R I h => ?_⟩
  refine thn (hl.run pins s σ H _ I h) fun v s1 ⟨x, H1, I1, r1, q1⟩ => ?_
  obtain ⟨a, e, q⟩ := q1
  subst e
  cases r1
  rcases q with ⟨⟨xs, hq⟩, q⟩ | ⟨⟨xs, hq⟩, q⟩
  · obtain ⟨its, rv, p, hz⟩ := I1.list hq
    refine wpAny_pyIter_list p.isList ?_
    refine ⟨s1.heap.objs.size, [s1.heap.objs.size], _, _, H1, rfl, I1.kept (t' := s1.toks) fun b o e => Heap.get?_push_of_some _ e, turn_list a _, ⟨_, Heap.get?_push_size _ rfl, rfl, rfl⟩, fun b hb => ?_, q⟩
    have e : b = s1.heap.objs.size := by simpa using hb
    subst e
    exact I1.fpOk (Nat.le_refl _) (I1.hok.fresh (Nat.le_refl _))
  · obtain ⟨its, rv, p, hz⟩ := I1.tuple hq
    refine wpAny_pyIter_tuple (show s1.heap.IsTuple a its.toArray from p) ?_
    refine ⟨s1.heap.objs.size, [s1.heap.objs.size], _, _, H1, rfl, I1.kept (t' := s1.toks) fun b o e => Heap.get?_push_of_some _ e, turn_tuple a _, ⟨_, Heap.get?_push_size _ rfl, rfl, rfl⟩, fun b hb => ?_, q⟩
    have e : b = s1.heap.objs.size := by simpa using hb
    subst e
    exact I1.fpOk (Nat.le_refl _) (I1.hok.fresh (Nat.le_refl _))
/-- a value that is a list or tuple of items of which Ps holds -/
def SqV (K : PySem.W.Frag) (Ps : List V → Hp → Prop) : PV := fun v B => ∃ l vs, v = .ref l ∧ (SqL K B l vs ∨ SqT K B l vs) ∧ Ps vs B
theorem sqv_lst {K : PySem.W.Frag} {B : Hp} {v : V} {ds : List PyData} (h : Dd K B v (.list ds)) : SqV K (DDs K ds) v B := by
  obtain ⟨a, xs, rfl, h1, l1, g1⟩ := dd_lst h
  exact ⟨a, xs, rfl, .inl (sq_of h1), g1⟩
theorem sqv_tup {K : PySem.W.Frag} {B : Hp} {v : V} {ds : List PyData} (h : Dd K B v (.tuple ds)) : SqV K (DDs K ds) v B := by
  obtain ⟨a, xs, rfl, h1, l1, g1⟩ := dd_tup h
  exact ⟨a, xs, rfl, .inr h1, g1⟩

section
variable {F : Fm} {K : PySem.W.Frag} {σ : L2.St} {B0 H0 B H : Hp} {D : Ends} {tb tz : TS} {tl te : TE} {tt : TT} {j : Nat} {ds : List PyData} {Ps : List V → Hp → Prop}
theorem ev_seqL (h : ED F K tl σ B (.list ds)) : EV F tl σ B (SqV K (DDs K ds)) := h.imp fun _ _ _ p => sqv_lst p
theorem ev_seqT (h : ED F K tl σ B (.tuple ds)) : EV F tl σ B (SqV K (DDs K ds)) := h.imp fun _ _ _ p => sqv_tup p
/-- where a loop's turn stands -/
def Lp (F : Fm) (B0 H0 B : Hp) (I : L2.St → Hp → Prop) : L2.St → Hp → Prop := fun σ' H' => ∃ B', Ex B B' ∧ At F B0 H0 B' H' ∧ I σ' B'
theorem sv_for (a : At F B0 H0 B H) (h : EV F tl σ B (SqV K Ps)) (n : Nat) (hn : ∀ vs B1, Ps vs B1 → vs.length = n) (hu : Upcs Ps) (I : Nat → L2.St → Hp → Prop) (h0 : ∀ B1, Ex B B1 → I 0 σ B1)
    (hs : ∀ Bb i v vs σ' B1 H1, Ex B Bb → vs[i]? = some v → Ps vs B1 → Ex Bb B1 → At F B0 H0 B1 H1 → I i σ' B1 → tb { D with nx := Lp F B0 H0 Bb (I (i + 1)), ct := Lp F B0 H0 Bb (I (i + 1)), bk := D.nx } (σ'.set j (some v)) H1)
    (hd : ∀ σ' B1 H1, Ex B B1 → At F B0 H0 B1 H1 → I n σ' B1 → D.nx σ' H1) : tFor (iSeq K tl) (gName j) tb D σ H := by
  refine h B (Ex.refl B) H a.j _ fun v B1 H1 s1 j1 p => ?_
  obtain ⟨l, vs, rfl, hl, ps⟩ := p
  have a1 := a.next s1 j1
  have en := hn vs B1 ps
  refine ⟨l, rfl, ?_⟩
  rcases hl with hl | hl
  · refine .inl ⟨⟨vs, ex_l j1.e hl⟩, for_list (K := K) (xs := vs) (fun i => Lp F B0 H0 B1 (I i)) ⟨B1, Ex.refl B1, a1, h0 B1 s1.bb⟩ (fun i σ' H' _ ⟨B', e, a', _⟩ => ex_l a'.e (ex_l e hl)) (fun i x σ' H' hx ⟨B', e, a', hi⟩ => ?_) (fun σ' H' ⟨B', e, a', hi⟩ => hd σ' B' H' (s1.bb.trans e) a' (en ▸ hi))⟩
    exact hs B1 i x vs σ' B' H' s1.bb hx (hu _ _ _ e ps) e a' hi
  · refine .inr ⟨⟨vs, ex_t j1.e hl⟩, for_tup (K := K) (xs := vs) (fun i => Lp F B0 H0 B1 (I i)) ⟨B1, Ex.refl B1, a1, h0 B1 s1.bb⟩ (fun i σ' H' _ ⟨B', e, a', _⟩ => ex_t a'.e (ex_t e hl)) (fun i x σ' H' hx ⟨B', e, a', hi⟩ => ?_) (fun σ' H' ⟨B', e, a', hi⟩ => hd σ' B' H' (s1.bb.trans e) a' (en ▸ hi))⟩
    exact hs B1 i x vs σ' B' H' s1.bb hx (hu _ _ _ e ps) e a' hi
theorem qv_for (a : At F B0 H0 B H) (h : EV F tl σ B (SqV K Ps)) (n : Nat) (hn : ∀ vs B1, Ps vs B1 → vs.length = n) (hu : Upcs Ps) (I : Nat → L2.St → Hp → Prop) (h0 : ∀ B1, Ex B B1 → I 0 σ B1)
    (hs : ∀ Bb i v vs σ' B1 H1, Ex B Bb → vs[i]? = some v → Ps vs B1 → Ex Bb B1 → At F B0 H0 B1 H1 → I i σ' B1 → tb { D with nx := Lp F B0 H0 Bb (I (i + 1)), ct := Lp F B0 H0 Bb (I (i + 1)), bk := tz D } (σ'.set j (some v)) H1)
    (hd : ∀ σ' B1 H1, Ex B B1 → At F B0 H0 B1 H1 → I n σ' B1 → tz D σ' H1) : tSeq (tFor (iSeq K tl) (gName j) tb) tz D σ H := sv_for (D := { D with nx := tz D }) a h n hn hu I h0 hs hd
/-- over data -/
theorem qd_for (a : At F B0 H0 B H) (h : EV F tl σ B (SqV K (DDs K ds))) (I : Nat → L2.St → Hp → Prop) (h0 : ∀ B1, Ex B B1 → I 0 σ B1)
    (hs : ∀ Bb i v d σ' B1 H1, Ex B Bb → ds[i]? = some d → Dd K B1 v d → Ex Bb B1 → At F B0 H0 B1 H1 → I i σ' B1 → tb { D with nx := Lp F B0 H0 Bb (I (i + 1)), ct := Lp F B0 H0 Bb (I (i + 1)), bk := tz D } (σ'.set j (some v)) H1)
    (hd : ∀ σ' B1 H1, Ex B B1 → At F B0 H0 B1 H1 → I ds.length σ' B1 → tz D σ' H1) : tSeq (tFor (iSeq K tl) (gName j) tb) tz D σ H :=
  qv_for a h ds.length (fun vs B1 p => DdAll.len p) upc_dds I h0 (fun Bb i v vs σ' B1 H1 e0 hv ps e a' hi => by
    obtain ⟨d, h1, h2⟩ := DdAll.getv (show DdAll K B1 vs ds from ps) hv
    exact hs Bb i v d σ' B1 H1 e0 h1 h2 e a' hi) hd
/-- over range(n) -/
theorem qd_forR {ta : TA} {n : Int} (a : At F B0 H0 B H) (h : EDs F K ta σ B [.int n]) (hn : -4611686018427387904 ≤ n ∧ n < 4611686018427387904) (I : Nat → L2.St → Hp → Prop) (h0 : ∀ B1, Ex B B1 → I 0 σ B1)
    (hs : ∀ Bb (i : Nat) σ' B1 H1, Ex B Bb → (i : Int) < n → Ex Bb B1 → At F B0 H0 B1 H1 → I i σ' B1 → tb { D with nx := Lp F B0 H0 Bb (I (i + 1)), ct := Lp F B0 H0 Bb (I (i + 1)), bk := tz D } (σ'.set j (some (.int (i : Int)))) H1)
    (hd : ∀ σ' B1 H1, Ex B B1 → At F B0 H0 B1 H1 → I n.toNat σ' B1 → tz D σ' H1) : tSeq (tFor (iRng1 ta) (gName j) tb) tz D σ H := by
  refine h B (Ex.refl B) H a.j _ fun vs B1 H1 s1 j1 p => ?_
  have a1 := a.next s1 j1
  cases p with
  | cons p t =>
    cases t
    obtain rfl := dd_int p
    refine ⟨n, rfl, hn.1, hn.2, for_range (lo := 0) (n := n.toNat) (D := { D with nx := tz D }) (fun i => Lp F B0 H0 B1 (I i)) ⟨B1, Ex.refl B1, a1, h0 B1 s1.bb⟩ (fun i σ' H' hx ⟨B', e, a', hi⟩ => ?_) (fun σ' H' ⟨B', e, a', hi⟩ => hd σ' B' H' (s1.bb.trans e) a' hi)⟩
    have e0 : (0 : Int) + (i : Int) = (i : Int) := Int.zero_add _
    show tb _ (σ'.set j (some (.int ((0 : Int) + (i : Int))))) H'
    rw [e0]
    exact hs B1 i σ' B' H' s1.bb (by omega) e a' hi
/-- while -/
theorem qv_while {t : TT} (a : At F B0 H0 B H) (W : Nat → L2.St → Hp → Prop) (m0 : Nat) (h0 : W m0 σ B)
    (hs : ∀ m σ' B1 H1, Ex B B1 → At F B0 H0 B1 H1 → W m σ' B1 → ∃ b, ETt F t σ' B1 b ∧ (b = true → ∀ B2 H2, Ex B1 B2 → At F B0 H0 B2 H2 → tb { D with nx := fun σ2 H3 => ∃ m', m' < m ∧ Lp F B0 H0 B (W m') σ2 H3, ct := fun σ2 H3 => ∃ m', m' < m ∧ Lp F B0 H0 B (W m') σ2 H3, bk := tz D } σ' H2) ∧
      (b = false → ∀ B2 H2, Ex B1 B2 → At F B0 H0 B2 H2 → tz D σ' H2)) : tSeq (tWhile t tb) tz D σ H := by
  refine ⟨fun m => Lp F B0 H0 B (W m), ⟨m0, B, Ex.refl B, a, h0⟩, fun m σ' H' ⟨B1, e, a1, hw⟩ => ?_⟩
  obtain ⟨b, hb, h1, h2⟩ := hs m σ' B1 H' e a1 hw
  refine hb B1 (Ex.refl B1) H' a1.j _ fun B2 H2 s2 j2 => ?_
  cases b with
  | true => exact ⟨_, fun σ2 H3 q => q, h1 rfl B2 H2 s2.bb (a1.next s2 j2)⟩
  | false => exact h2 rfl B2 H2 s2.bb (a1.next s2 j2)
end

/-! ### comprehensions -/
section
variable {F : Fm} {K : PySem.W.Frag} {σ : L2.St} {B : Hp} {tl te : TE} {tt : TT} {j : Nat} {ds : List PyData} {vsN : List Nat}
/-- the list that grows at Dl; B1, H1: ahead of it -/
def Cq (F : Fm) (K : PySem.W.Frag) (B1 H1 : Hp) (Dl : Addr) (ds : List PyData) (H' : Hp) : Prop := ∃ B' acc, Step F.M B1 H1 B' H' ∧ Ok F B' H' ∧ B' Dl = none ∧ H' Dl = some (.lst acc) ∧ DdAll K B' acc ds
theorem cq_start {B1 H1 : Hp} {Dl : Addr} (k : Ok F B1 H1) (hD : H1 Dl = none) : Cq F K B1 H1 Dl [] (upd H1 Dl (.lst [])) := by
  have hb : B1 Dl = none := fresh_back k.e hD
  have s : Step F.M B1 H1 B1 (upd H1 Dl (.lst [])) := ⟨Ex.refl B1, fun a o h => by rw [upd_ne (ne_of_none h hb)]; exact k.e a o h, fun a o _ h => by rw [upd_ne (ne_of_none h hD)]; exact h, fun a h _ => h, fun a n => by
    have ha : a ≠ Dl := fun z => n (z ▸ hD)
    rw [upd_ne ha]
    exact n, fun a n => n.upd fun z => n.ne (z ▸ hD)⟩
  exact ⟨B1, [], s, k.next s (F.up _ _ (Ex.new hD) k.j), hb, upd_same, .nil⟩
/-- one item more -/
theorem cq_more {B1 H1 B' H' : Hp} {Dl : Addr} {acc : List V} {d : PyData} {ds : List PyData} {y : V} (hD : H1 Dl = none) (k1 : Ok F B1 H1) (s : Step F.M B1 H1 B' H') (k : Ok F B' H') (hb : B' Dl = none) (hd : H' Dl = some (.lst acc)) (ha : DdAll K B' acc ds) (hy : Dd K B' y d) :
    Cq F K B1 H1 Dl (ds ++ [d]) (upd H' Dl (.lst (acc ++ [y]))) := by
  have nm : ¬ F.M Dl := fun m => (F.lv H1 Dl k1.j m).ne hD
  have s2 : Step F.M B1 H1 B' (upd H' Dl (.lst (acc ++ [y]))) := ⟨s.bb, fun a o h => by rw [upd_ne (ne_of_none h hb)]; exact k.e a o h, fun a o n h => by rw [upd_ne (ne_of_none h hD)]; exact s.keep a o n h, s.sep, fun a n => by
    have ha : a ≠ Dl := fun z => n (z ▸ hD)
    rw [upd_ne ha]
    exact s.live a n, fun a n => (s.liv a n).upd fun z => n.ne (z ▸ hD)⟩
  have j2 : F.J (upd H' Dl (.lst (acc ++ [y]))) := by
    -- J holds of H' and of what stands in it: the new list is none of M
    exact F.fr H' Dl _ k.j nm
  exact ⟨B', acc ++ [y], s2, k1.next s2 j2, hb, upd_same, ha.snoc hy⟩
/-- what stands is data -/
theorem cq_done {B1 H1 H' : Hp} {Dl : Addr} {ds : List PyData} (k1 : Ok F B1 H1) (hD : H1 Dl = none) (hl : ds.length ≤ 16777216) (c : Cq F K B1 H1 Dl ds H') : ∃ B2, Step F.M B1 H1 B2 H' ∧ Ok F B2 H' ∧ Dd K B2 (.ref Dl) (.list ds) := by
  obtain ⟨B', acc, s, k, hb, hd, ha⟩ := c
  have s2 : Step F.M B1 H1 (upd B' Dl (.lst acc)) H' := ⟨s.bb.trans (Ex.new hb), fun a o h => by
    by_cases e : a = Dl
    · subst e
      rw [upd_same] at h
      rw [hd]
      exact h
    · rw [upd_ne e] at h
      exact k.e a o h, s.keep, fun a h n => by
    have e : a ≠ Dl := fun z => n.ne (z ▸ hD)
    rw [upd_ne e]
    exact s.sep a h n, s.live, s.liv⟩
  exact ⟨_, s2, k1.next s2 k.j, .lst upd_same (by rw [ha.len, sizeLine_eq]; exact hl) (ha.up (Ex.new hb))⟩
/-- one turn, with its test -/
theorem cq_turn {B1 H1 H' : Hp} {Dl : Addr} {acc0 : List PyData} {σ2 : L2.St} {bb : Bool} {d : PyData} (k1 : Ok F B1 H1) (hD : H1 Dl = none) (hl : acc0.length < 16777216) (c : Cq F K B1 H1 Dl acc0 H')
    (ht : ∀ B', Ex B1 B' → ETt F tt σ2 B' bb) (he : bb = true → ∀ B', Ex B1 B' → ED F K te σ2 B' d) :
    tt σ2 H' fun b H3 => if b = true then te σ2 H3 fun y H4 => ∃ acc, H4 Dl = some (.lst acc) ∧ acc.length < sizeLine ∧ Cq F K B1 H1 Dl (acc0 ++ (if bb = true then [d] else [])) (upd H4 Dl (.lst (acc ++ [y]))) else Cq F K B1 H1 Dl (acc0 ++ (if bb = true then [d] else [])) H3 := by
  obtain ⟨B', acc, s, k, hb, hd, ha⟩ := c
  have nm : ¬ F.M Dl := fun m => (F.lv H1 Dl k1.j m).ne hD
  have lv : Liv H' Dl := ⟨_, hd, trivial⟩
  refine ht B' s.bb B' (Ex.refl B') H' k _ fun B3 H3 s3 k3 => ?_
  have hb3 := s3.sep Dl hb lv
  have hd3 := s3.keep Dl _ nm hd
  cases bb with
  | true =>
    show te σ2 H3 _
    refine he rfl B3 (s.bb.trans s3.bb) B3 (Ex.refl B3) H3 k3 _ fun y B4 H4 s4 k4 g => ?_
    have lv3 : Liv H3 Dl := s3.liv Dl lv
    refine ⟨acc, s4.keep Dl _ nm hd3, ?_, ?_⟩
    · rw [ha.len, sizeLine_eq]
      exact hl
    · exact cq_more hD k1 ((s.trans s3).trans s4) k4 (s4.sep Dl hb3 lv3) (s4.keep Dl _ nm hd3) (ha.up (s3.bb.trans s4.bb)) g
  | false =>
    show Cq F K B1 H1 Dl (acc0 ++ []) H3
    rw [List.append_nil]
    exact ⟨B3, acc, s.trans s3, k3, hb3, hd3, ha.up s3.bb⟩
theorem filter_snoc {α : Type} (p : α → Bool) (g : α → PyData) (l : List α) (x : α) : ((l ++ [x]).filter p).map g = (l.filter p).map g ++ (if p x = true then [g x] else []) := by
  rw [List.filter_append, List.map_append]
  congr 1
  by_cases h : p x = true
  · rw [if_pos h, List.filter_cons, if_pos h]
    rfl
  · rw [if_neg h, List.filter_cons, if_neg h]
    rfl
theorem take_snoc {α : Type} {l : List α} {i : Nat} {x : α} (h : l[i]? = some x) : l.take (i + 1) = l.take i ++ [x] := by
  rw [List.take_add_one, h]
  rfl
/-- [te for x in a list or tuple of data if tt] -/
theorem ed_lcD (p : PyData → Bool) (g : PyData → PyData) (h : EV F tl σ B (SqV K (DDs K ds))) (hz : ds.length ≤ 16777216) (hw : ∀ x, wipe ((wipe σ vsN).set j (some x)) vsN = wipe σ vsN)
    (ht : ∀ d v B1, d ∈ ds → Ex B B1 → Dd K B1 v d → ETt F tt ((wipe σ vsN).set j (some v)) B1 (p d))
    (he : ∀ d v B1, d ∈ ds → p d = true → Ex B B1 → Dd K B1 v d → ED F K te ((wipe σ vsN).set j (some v)) B1 (g d)) :
    ED F K (tLc (iSeq K tl) (gName j) tt te vsN) σ B (.list ((ds.filter p).map g)) := fun B0 e0 H0 k0 Q q => by
  refine h B0 e0 H0 k0 _ fun v B1 H1 s1 k1 pv => ?_
  obtain ⟨l, vs, rfl, hl, ps⟩ := pv
  have ps' : DdAll K B1 vs ds := ps
  have en := ps'.len
  have fl : ∀ i, ((ds.take i).filter p).length ≤ i := fun i => Nat.le_trans (List.length_filter_le _ _) (by rw [List.length_take]; exact Nat.min_le_left _ _)
  have turn : ∀ (Dl : Addr), H1 Dl = none → ∀ i x H', vs[i]? = some x → Cq F K B1 H1 Dl (((ds.take i).filter p).map g) H' → gName j x (wipe σ vsN) H' fun σ2 H2 => wipe σ2 vsN = wipe σ vsN ∧ tt σ2 H2 fun b H3 =>
      if b = true then te σ2 H3 fun y H4 => ∃ acc, H4 Dl = some (.lst acc) ∧ acc.length < sizeLine ∧ Cq F K B1 H1 Dl (((ds.take (i + 1)).filter p).map g) (upd H4 Dl (.lst (acc ++ [y]))) else Cq F K B1 H1 Dl (((ds.take (i + 1)).filter p).map g) H3 := by
    intro Dl hD i x H' hx c
    obtain ⟨d, hd, hdv⟩ := ps'.getv hx
    have hm : d ∈ ds := List.mem_of_getElem? hd
    have hi : i < ds.length := (List.getElem?_eq_some_iff.mp hd).1
    refine ⟨hw x, ?_⟩
    rw [take_snoc hd, filter_snoc]
    exact cq_turn k1 hD (by rw [List.length_map]; exact Nat.lt_of_le_of_lt (fl i) (by omega)) c (fun B' e => ht d x B' hm ((e0.trans s1.bb).trans e) (hdv.up e)) (fun hp B' e => he d x B' hm hp ((e0.trans s1.bb).trans e) (hdv.up e))
  have fin : ∀ (Dl : Addr), H1 Dl = none → ∀ H', Cq F K B1 H1 Dl (((ds.take vs.length).filter p).map g) H' → Q (.ref Dl) H' := by
    intro Dl hD H' c
    rw [en, List.take_length] at c
    obtain ⟨B2, s2, k2, g2⟩ := cq_done k1 hD (by rw [List.length_map]; exact Nat.le_trans (List.length_filter_le _ _) hz) c
    exact q _ B2 H' (s1.trans s2) k2 g2
  refine ⟨l, rfl, ?_⟩
  rcases hl with hl | hl
  · refine .inl ⟨⟨vs, ex_l k1.e hl⟩, fun Dl hD => lc_list (K := K) (xs := vs) (fun i => Cq F K B1 H1 Dl (((ds.take i).filter p).map g)) (cq_start k1 hD) (fun i H' _ c => ?_) (fun i x H' hx c => turn Dl hD i x H' hx c) (fun H' c => fin Dl hD H' c)⟩
    obtain ⟨B', acc, s, k, _⟩ := c
    exact ex_l k.e (ex_l s.bb hl)
  · refine .inr ⟨⟨vs, ex_t k1.e hl⟩, fun Dl hD => lc_tup (K := K) (xs := vs) (fun i => Cq F K B1 H1 Dl (((ds.take i).filter p).map g)) (cq_start k1 hD) (fun i H' _ c => ?_) (fun i x H' hx c => turn Dl hD i x H' hx c) (fun H' c => fin Dl hD H' c)⟩
    obtain ⟨B', acc, s, k, _⟩ := c
    exact ex_t k.e (ex_t s.bb hl)
/-- [te for i in range(n) if tt] -/
theorem ed_lcR {ta : TA} {n : Int} (p : Nat → Bool) (g : Nat → PyData) (h : EDs F K ta σ B [.int n]) (hn : -4611686018427387904 ≤ n ∧ n ≤ 16777216) (hw : ∀ x, wipe ((wipe σ vsN).set j (some x)) vsN = wipe σ vsN)
    (ht : ∀ (i : Nat) B1, (i : Int) < n → Ex B B1 → ETt F tt ((wipe σ vsN).set j (some (.int (i : Int)))) B1 (p i))
    (he : ∀ (i : Nat) B1, (i : Int) < n → p i = true → Ex B B1 → ED F K te ((wipe σ vsN).set j (some (.int (i : Int)))) B1 (g i)) :
    ED F K (tLc (iRng1 ta) (gName j) tt te vsN) σ B (.list (((List.range n.toNat).filter p).map g)) := fun B0 e0 H0 k0 Q q => by
  refine h B0 e0 H0 k0 _ fun vs B1 H1 s1 k1 pv => ?_
  cases pv with
  | cons pv t =>
    cases t
    obtain rfl := dd_int pv
    have fl : ∀ i, ((List.range i).filter p).length ≤ i := fun i => Nat.le_trans (List.length_filter_le _ _) (by rw [List.length_range]; exact Nat.le_refl _)
    refine ⟨n, rfl, hn.1, by omega, fun Dl hD => lc_range (lo := 0) (n := n.toNat) (fun i => Cq F K B1 H1 Dl (((List.range i).filter p).map g)) (cq_start k1 hD) (fun i H' hi c => ?_) (fun H' c => ?_)⟩
    · have e1 : (0 : Int) + (i : Int) = (i : Int) := Int.zero_add _
      show wipe ((wipe σ vsN).set j (some (.int ((0 : Int) + (i : Int))))) vsN = wipe σ vsN ∧ tt ((wipe σ vsN).set j (some (.int ((0 : Int) + (i : Int))))) H' _
      rw [e1]
      refine ⟨hw _, ?_⟩
      rw [List.range_succ, filter_snoc]
      exact cq_turn k1 hD (by rw [List.length_map]; exact Nat.lt_of_le_of_lt (fl i) (by omega)) c (fun B' e => ht i B' (by omega) ((e0.trans s1.bb).trans e)) (fun hp B' e => he i B' (by omega) hp ((e0.trans s1.bb).trans e))
    · obtain ⟨B2, s2, k2, g2⟩ := cq_done k1 hD (by rw [List.length_map]; exact Nat.le_trans (fl _) (by omega)) c
      exact q _ B2 H' (s1.trans s2) k2 g2
/-- no test -/
theorem et_yes {σ : L2.St} : ETt F tYes σ B true := fun B1 e0 H k Q q => q B1 H (Step.refl k.e) k
end
end Dx

/-! Defs that are called, boxes of draws, exceptions as values. -/
namespace Dx
open PySem PySem.Spec PyProof.Rows L2 Evl Ex

/-! ### built-in names -/
theorem bt_len : bootBuiltins "len" = some (.builtin "len") := by decide +kernel
theorem bt_abs : bootBuiltins "abs" = some (.builtin "abs") := by decide +kernel
theorem bt_isinstance : bootBuiltins "isinstance" = some (.builtin "isinstance") := by decide +kernel
theorem bt_all : bootBuiltins "all" = some (.builtin "all") := by decide +kernel
theorem bt_any : bootBuiltins "any" = some (.builtin "any") := by decide +kernel
theorem bt_int : bootBuiltins "int" = some (.type "int") := by decide +kernel
theorem bt_str : bootBuiltins "str" = some (.type "str") := by decide +kernel
theorem bt_bool : bootBuiltins "bool" = some (.type "bool") := by decide +kernel
theorem bt_tuple : bootBuiltins "tuple" = some (.type "tuple") := by decide +kernel
theorem bt_list : bootBuiltins "list" = some (.type "list") := by decide +kernel
theorem bt_ValueError : bootBuiltins "ValueError" = some (.type "ValueError") := by decide +kernel

/-! ### a def that others call -/
structure Callee (P : Program) (w : World) (K : PySem.W.Frag) (mg : Str → Option Value) (base : Heap) (x : Str) (k : Nat) (ps : List Str) (sp : Sp) : Prop where
  ex : ∃ f fd, FnOk P w K mg base CX0 k f fd ps sp ∧ mg x = some (.ref f) ∧ PySem.W.keepIn K (.ref f) = true ∧ Binds K fd ps []
section
variable {X : Cx} {x : Str} {k : Nat} {ps : List Str} {sp : Sp} {E : XK} {e : Expr} {es : List Expr} {t : TA} {p pos : Pos}
theorem pe_callC (C : Callee X.prog X.w X.K X.mg X.base x k ps sp) (hr : Room k X.A) (hg : Gl X x) (hx : Passes CX0 X E) (ha : PA X (e :: es) t) (hdb : (x == ("__debug__" : Str)) = false := by decide)
    (he : starEach (e :: es) X.env = (false, eval e X.env) :: starEach es X.env := by rfl) (hpl : (backTo pos (starEach es X.env)).any (·.1) = false := by rfl) :
    PE X (.Call (.Name x p) (e :: es) [] pos) (tCall sp [] E t) := by
  obtain ⟨f, fd, F, hm, hk, hb⟩ := C.ex
  exact pe_call F hr hg hm hk hb .nil hx ha hdb he hpl
theorem pe_callC0 (C : Callee X.prog X.w X.K X.mg X.base x k ps sp) (hr : Room k X.A) (hg : Gl X x) (hx : Passes CX0 X E) (hdb : (x == ("__debug__" : Str)) = false := by decide) :
    PE X (.Call (.Name x p) [] [] pos) (tCall sp [] E tNil) := by
  obtain ⟨f, fd, F, hm, hk, hb⟩ := C.ex
  exact pe_call0 F hr hg hm hk hb .nil hx hdb
theorem pe_gint {i : Int} (hg : Gl X x) (hm : ∃ t, X.mg x = some (.int i t)) (hd : (x == ("__debug__" : Str)) = false := by decide) : PE X (.Name x pos) (tC (.int i)) := by
  obtain ⟨t, hm⟩ := hm
  exact pe_glob hg hm ⟨t, rfl⟩ hd
end

/-! ### a box of draws -/
def bxJ (p : Addr) (H : Hp) : Prop := ∃ g s : Int, H p = some (.lst [.int g, .int s])
theorem bxJ_live {p a : Addr} {H : Hp} (h : bxJ p H) (m : a = p) : Liv H a := by
  obtain ⟨g, s, h⟩ := h
  subst m
  exact ⟨_, h, trivial⟩
theorem bxJ_fr {p a : Addr} {H : Hp} {o : HO} (h : bxJ p H) (n : ¬ a = p) : bxJ p (upd H a o) := by
  obtain ⟨g, s, h⟩ := h
  exact ⟨g, s, by rw [upd_ne (fun z => n z.symm)]; exact h⟩
def Fm.box (p : Addr) : Fm := ⟨fun a => a = p, bxJ p, fun _ _ e ⟨g, s, h⟩ => ⟨g, s, e _ _ h⟩, fun _ _ h m => bxJ_live h m, fun _ _ _ h n => bxJ_fr h n⟩
/-- f(box, ..): draws, changes the box alone -/
def spX (K : PySem.W.Frag) (pre : List PyData → Prop) (P : List PyData → PV) : Sp := fun vs H Q _ => ∃ (p : Addr) (us : List V) (B : Hp) (ds : List PyData), vs = .ref p :: us ∧ Ok (Fm.box p) B H ∧ DdAll K B us ds ∧ pre ds ∧
  ∀ v B' H', Step (fun a => a = p) B H B' H' → Ok (Fm.box p) B' H' → P ds v B' → Q v H'
section
variable {K : PySem.W.Frag} {σ : L2.St} {B : Hp} {p : Addr} {i : Nat} {tas : TA} {ds : List PyData} {pre : List PyData → Prop} {P : List PyData → PV} {E : XK} {Z : PV}
theorem ev_X (hi : σ[i]? = some (some (.ref p))) (ha : EDs (Fm.box p) K tas σ B ds) (h : pre ds) (hz : ∀ v B1, Ex B B1 → P ds v B1 → Z v B1) : EV (Fm.box p) (tCall (spX K pre P) [] E (tCons (tVar i) tas)) σ B Z := fun B1 e0 H j Q q =>
  ⟨.ref p, hi, ha B1 e0 H j _ fun us B2 H2 s2 j2 g => by
    show spX K pre P ((V.ref p :: us) ++ []) H2 Q E
    rw [List.append_nil]
    exact ⟨p, us, B2, ds, rfl, j2, g, h, fun v B3 H3 s3 j3 pz => q v B3 H3 (s2.trans s3) j3 (hz v B3 ((e0.trans s2.bb).trans s3.bb) pz)⟩⟩
end

/-! ### exceptions as values -/
def spInit (C : Addr) (f : Str) : Sp := fun vs H Q _ => ∃ (a : Addr) (v : V), vs = [.ref a, v] ∧ H a = some (exo a C none) ∧ ∀ dx, H dx = none → dx ≠ a → Q .non (upd (upd H dx (exd dx [(f, v)])) a (exo a C (some dx)))
structure ExcAt (P : Program) (w : World) (K : PySem.W.Frag) (mg : Str → Option Value) (base : Heap) (x f : Str) (C : Addr) : Prop where
  oc : OexC K C
  xf : XfC K C
  isc : IsC K C
  no : PySem.W.findIn K (.ref C) f = some none
  g : mg x = some (.ref C)
  ini : ∃ fI fd, PySem.W.findIn K (.ref C) "__init__" = some (some (.ref fI)) ∧ PySem.W.typeIn K (.ref fI) = some (.type "function") ∧ FnOk P w K mg base CX0 1 fI fd ["self", f] (spInit C f) ∧ Binds K fd ["self", f] []
section
variable {X : Cx} {x f : Str} {C : Addr} {e : Expr} {ta : TA} {p pos : Pos}
theorem pe_mkE (c : ExcAt X.prog X.w X.K X.mg X.base x f C) (hr : Room 2 X.A) (hg : Gl X x) (ha : PA X [e] ta) (hdb : (x == ("__debug__" : Str)) = false := by decide)
    (he : starEach [e] X.env = (false, eval e X.env) :: starEach [] X.env := by rfl) (hpl : (backTo pos (starEach [] X.env)).any (·.1) = false := by rfl) :
    PE X (.Call (.Name x p) [e] [] pos) (tMkV C (spInit C f) [] ta) := by
  obtain ⟨fI, fd, h1, h2, h3, h4⟩ := c.ini
  exact pe_mkv c.oc h1 h2 h3 hr h4 .nil pass0 hg c.g ha hdb he hpl
end
/-- an error of the class at C that keeps data d under the name f -/
def EvX (K : PySem.W.Frag) (C : Addr) (f : Str) (d : PyData) : PV := fun v B => ∃ (a dx : Addr) (u : V), v = .ref a ∧ B a = some (exo a C (some dx)) ∧ B dx = some (exd dx [(f, u)]) ∧ Dd K B u d
section
variable {F : Fm} {K : PySem.W.Frag} {σ : L2.St} {B : Hp} {te : TE} {d : PyData} {C : Addr} {f : Str}
theorem upc_evx : Upc (EvX K C f d) := fun v B B' e h => by
  obtain ⟨a, dx, u, rfl, h1, h2, h3⟩ := h
  exact ⟨a, dx, u, rfl, e _ _ h1, e _ _ h2, Dd.up h3 e⟩
theorem upd3 {H : Hp} {a b : Addr} {o u v : HO} (h : b ≠ a) : upd (upd (upd H a o) b u) a v = upd (upd H b u) a v := by
  funext c
  by_cases h1 : c = a
  · subst h1
    rw [upd_same, upd_same]
  · rw [upd_ne h1, upd_ne h1]
    by_cases h2 : c = b
    · subst h2
      rw [upd_same, upd_same]
    · rw [upd_ne h2, upd_ne h2, upd_ne h1]
theorem ev_mk (h : ED F K te σ B d) : EV F (tMkV C (spInit C f) [] (tCons te tNil)) σ B (EvX K C f d) := fun B1 e0 H j Q q =>
  h B1 e0 H j _ fun v B2 H2 s2 j2 g => ⟨(by show 1 ≤ 1000; decide), fun a ha => ⟨a, v, rfl, upd_same, fun dx hdx hne => ⟨rfl, by
    have hd : H2 dx = none := by
      rw [upd_ne hne] at hdx
      exact hdx
    have ha2 : upd H2 dx (exd dx [(f, v)]) a = none := by
      rw [upd_ne (Ne.symm hne)]
      exact ha
    have s3 : Step F.M B2 H2 (upd B2 dx (exd dx [(f, v)])) (upd H2 dx (exd dx [(f, v)])) := Step.alloc j2.e hd
    have j3 := j2.alloc (o := exd dx [(f, v)]) hd
    have s4 : Step F.M _ _ (upd (upd B2 dx (exd dx [(f, v)])) a (exo a C (some dx))) (upd (upd H2 dx (exd dx [(f, v)])) a (exo a C (some dx))) := Step.alloc j3.e ha2
    have j4 := j3.alloc (o := exo a C (some dx)) ha2
    rw [upd3 hne]
    refine q (.ref a) _ _ ((s2.trans s3).trans s4) j4 ⟨a, dx, v, rfl, upd_same, ?_, Dd.up g (s3.bb.trans s4.bb)⟩
    rw [upd_ne hne]
    exact upd_same⟩⟩⟩
theorem ev_oxf (hx : XfC K C) (no : PySem.W.findIn K (.ref C) f = some none) (h : EV F te σ B (EvX K C f d)) : ED F K (tOxf K f te) σ B d := fun B1 e0 H j Q q =>
  h B1 e0 H j _ fun v B2 H2 s2 j2 ⟨a, dx, u, ev, h1, h2, h3⟩ => ⟨a, C, dx, _, u, ev, j2.e _ _ h1, j2.e _ _ h2, hx, no, (by simp [List.lookup]), q u B2 H2 s2 j2 h3⟩
theorem ev_isx {c : V} {cv : Value} {b : Bool} (hx : XfC K C) (hi : IsC K C) (hc : ClsV c cv) (hk : PySem.W.kitOne K (.ref C) cv = some b) (h : EV F te σ B (EvX K C f d)) : ED F K (tCB (rIsX K) (tCons te (tCons (tC c) tNil))) σ B (.bool b) := fun B1 e0 H j Q q =>
  h B1 e0 H j _ fun v B2 H2 s2 j2 ⟨a, dx, u, ev, h1, h2, h3⟩ => ⟨a, C, dx, _, c, cv, b, (by rw [ev]), j2.e _ _ h1, j2.e _ _ h2, hx, hi, hc, hk, q _ B2 H2 s2 j2 (.bl b)⟩
end
end Dx

/-! Instances whose __init__ may raise; errors raised; lists of errors; draws. -/
namespace Dx
open PySem PySem.Spec PyProof.Rows L2 Evl Ex

/-! ### C(..) where what is raised is wished for at the caller's slots -/
section
variable {X : Cx} {CX : CXT} {k : Nat} {C f : Addr} {fd : FuncData} {ps : List Str} {sp : Sp} {E : L2.St → XK} {x : Str} {p pos : Pos} {e : Expr} {es : List Expr} {t : TA}
def tMakeS (C : Addr) (sp : Sp) (E : L2.St → XK) (t : TA) : TE := fun σ H Q => t σ H fun vs H1 => ∀ x dx, H1 x = none → H1 dx = none → dx ≠ x → sp (.ref x :: vs) (upd (upd H1 dx (.own x)) x (.ins C dx [])) (fun v H2 => v = .non ∧ Q (.ref x) H2) (E σ)
theorem run_makeS {pins : List (Addr × Obj)} {σ : L2.St} {H : Hp} {s : Shared} {Q : VK} {us : List Value} {vs : List V} (M : Mk X.K C f) (F : FnOk X.prog X.w X.K X.mg X.base CX k f fd ps sp) (hr : Room (k + 1) X.A) (hb : Binds X.K fd ps [])
    (hx : PassesAt CX X σ (E σ)) (I : Inv X pins σ H s) (r : Vals vs us)
    (h : ∀ x dx, H x = none → H dx = none → dx ≠ x → sp (.ref x :: vs) (upd (upd H dx (.own x)) x (.ins C dx [])) (fun v H2 => v = .non ∧ Q (.ref x) H2) (E σ)) :
    wpAny (model X.prog X.w) X.A (call (.ref C) us) (EP X pins σ Q) X.xe s := by
  have hq := h (s.heap.objs.size + 1) s.heap.objs.size (I.hok.fresh (Nat.le_succ _)) (I.hok.fresh (Nat.le_refl _)) (Nat.ne_of_lt (Nat.lt_succ_self _))
  have I2 := Inv.made (C := C) I
  have r2 : Vals (V.ref (s.heap.objs.size + 1) :: vs) (Value.ref (s.heap.objs.size + 1) :: us) := .cons rfl r
  have hl : (Value.ref (s.heap.objs.size + 1) :: us ++ []).length = ps.length := by
    have e := r2.length
    rw [F.len _ _ _ _ hq] at e
    rw [List.append_nil]
    exact e.symm
  have b := hb _ (Value.ref (s.heap.objs.size + 1) :: us) I2.kIn hl
  rw [List.append_nil] at b
  refine wpAny_call (make_map (f := f) I.kIn M.makes M.init (beq_iff_eq.mp M.fn) (codeAny_mono (F.run _ X.stack _ _ ⟨Value.ref (s.heap.objs.size + 1) :: us, []⟩ (Value.ref (s.heap.objs.size + 1) :: us) _ _ (E σ) (hr.make C us [])
    (I2.env0.make C us []) b r2 hq) fun r s' hq' => ?_))
  cases r with
  | error e => exact hx pins _ _ e s' I2 hq'
  | ok fl =>
    cases fl with
    | ret u =>
      obtain ⟨v, H', I3, rv, ev, q3⟩ := I2.after hq'
      subst ev
      exact ⟨rv, ⟨V.ref (s.heap.objs.size + 1), H', I3, rfl, q3⟩⟩
    | next => exact False.elim hq'
    | brk => exact False.elim hq'
    | cont => exact False.elim hq'
theorem pe_makeS (M : Mk X.K C f) (F : FnOk X.prog X.w X.K X.mg X.base CX k f fd ps sp) (hr : Room (k + 1) X.A) (hg : Gl X x) (hm : X.mg x = some (.ref C)) (hb : Binds X.K fd ps []) (hx : ∀ σ, PassesAt CX X σ (E σ))
    (ha : PA X (e :: es) t) (hdb : (x == ("__debug__" : Str)) = false := by decide) (he : starEach (e :: es) X.env = (false, eval e X.env) :: starEach es X.env := by rfl) (hpl : (backTo pos (starEach es X.env)).any (·.1) = false := by rfl) :
    PE X (.Call (.Name x p) (e :: es) [] pos) (tMakeS C sp E t) := by
  refine ⟨fun pins s σ H Q I h => ?_⟩
  refine wpAny_Call_Name_kw (ld_glob I hg hm ?_ hdb)
  refine PySem.W.callWith_K (h₀ := X.base) I.ok.mod.kin M.kp (thn (ha.run pos pins s σ H _ I h) fun us s1 ⟨vs, H1, I1, r, q⟩ => ⟨I1.kIn, ?_⟩) he hpl
  exact run_makeS M F hr hb (hx σ) I1 r q
end

/-! ### raise X(e) -/
section
variable {X : Cx} {x f : Str} {C : Addr} {e : Expr} {ta : TA} {p pos : Pos}
theorem pmk_E (c : ExcAt X.prog X.w X.K X.mg X.base x f C) (hr : Room 2 X.A) (hg : Gl X x) (ha : PA X [e] ta) (hdb : (x == ("__debug__" : Str)) = false := by decide)
    (he : starEach [e] X.env = (false, eval e X.env) :: starEach [] X.env := by rfl) (hpl : (backTo pos (starEach [] X.env)).any (·.1) = false := by rfl) :
    PMk X (.Call (.Name x p) [e] [] pos) (tMkO C (spInit C f) [] ta) := by
  obtain ⟨fI, fd, h1, h2, h3, h4⟩ := c.ini
  exact pmk_oex c.oc h1 h2 h3 hr h4 .nil pass0 hg c.g ha hdb he hpl
end
/-- the reading of what is raised: behind a heap H1 that holds all of B; the error's own dict dd keeps v -/
theorem mk_raise {F : Fm} {P : PV} {σ : L2.St} {B H : Hp} {te : TE} {C : Addr} {f : Str} {E : XK} (k : Ok F B H) (h : EV F te σ B P)
    (q : ∀ v B1 H1 dd H', Step F.M B H B1 H1 → Ok F B1 H1 → P v B1 → H1 dd = none → Ex H1 H' → H' dd = some (.xd [(f, v)]) → E (.ref C) (some dd) H') : tMkO C (spInit C f) [] (tCons te tNil) σ H E :=
  h B (Ex.refl B) H k _ fun v B1 H1 s1 k1 p => ⟨(by show 1 ≤ 1000; decide), fun a ha => ⟨a, v, rfl, upd_same, fun dx hdx hne => ⟨rfl, dx, _, upd_same, (by rw [upd_ne hne]; exact upd_same), (by
    rw [upd_ne hne] at hdx
    exact hdx), by
    have hd : H1 dx = none := by
      rw [upd_ne hne] at hdx
      exact hdx
    refine q v B1 H1 dx _ s1 k1 p hd (fun b o hb => ?_) upd_same
    have b1 : b ≠ dx := ne_of_none hb hd
    have b2 : b ≠ a := ne_of_none hb ha
    rw [upd_ne b1, del_ne b2, upd_ne b2, upd_ne b1, upd_ne b2]
    exact hb⟩⟩⟩

/-! ### lists of errors -/
inductive AX (K : PySem.W.Frag) (d : PyData) (B : Hp) : List (Addr × Str) → List V → Prop
  | nil : AX K d B [] []
  | cons {c : Addr} {f : Str} {v : V} {cs : List (Addr × Str)} {vs : List V} : EvX K c f d v B → AX K d B cs vs → AX K d B ((c, f) :: cs) (v :: vs)
section
variable {F : Fm} {K : PySem.W.Frag} {d : PyData} {B B' : Hp} {σ : L2.St} {te : TE} {tas : TA} {cs cs' : List (Addr × Str)} {vs us : List V} {c : Addr} {f : Str}
theorem AX.up (e : Ex B B') : ∀ {cs : List (Addr × Str)} {vs : List V}, AX K d B cs vs → AX K d B' cs vs
  | _, _, .nil => .nil
  | _, _, .cons h t => .cons (upc_evx _ _ _ e h) (AX.up e t)
theorem AX.len : ∀ {cs : List (Addr × Str)} {vs : List V}, AX K d B cs vs → vs.length = cs.length
  | _, _, .nil => rfl
  | _, _, .cons _ t => by rw [List.length_cons, List.length_cons, AX.len t]
theorem AX.app : ∀ {cs cs' : List (Addr × Str)} {vs us : List V}, AX K d B cs vs → AX K d B cs' us → AX K d B (cs ++ cs') (vs ++ us)
  | _, _, _, _, .nil, h => h
  | _, _, _, _, .cons a t, h => .cons a (AX.app t h)
theorem AX.get : ∀ {cs : List (Addr × Str)} {vs : List V} {i : Nat} {v : V}, AX K d B cs vs → vs[i]? = some v → ∃ c f, cs[i]? = some (c, f) ∧ EvX K c f d v B
  | _, _, i, _, .nil, e => by simp at e
  | _, _, 0, _, .cons h _, e => by
    simp at e
    subst e
    exact ⟨_, _, rfl, h⟩
  | _, _, i + 1, v, .cons _ t, e => by
    obtain ⟨c, f, h1, h2⟩ := AX.get (i := i) (v := v) t (by simpa using e)
    exact ⟨c, f, by simpa using h1, h2⟩
theorem eax_nil : EVs F tNil σ B (fun vs B => AX K d B [] vs) := fun B1 e0 H j Q q => q [] B1 H (Step.refl j.e) j .nil
theorem eax_cons (h : EV F te σ B (EvX K c f d)) (hs : EVs F tas σ B (fun vs B => AX K d B cs vs)) : EVs F (tCons te tas) σ B (fun vs B => AX K d B ((c, f) :: cs) vs) := fun B1 e0 H j Q q =>
  h B1 e0 H j _ fun v B2 H2 s2 j2 p => hs B2 (e0.trans s2.bb) H2 j2 _ fun us B3 H3 s3 j3 ps => q (v :: us) B3 H3 (s2.trans s3) j3 (.cons (upc_evx _ _ _ s3.bb p) ps)
/-- a list of such errors -/
def LsX (K : PySem.W.Frag) (d : PyData) (cs : List (Addr × Str)) : PV := fun v B => ∃ a vs, v = .ref a ∧ B a = some (.lst vs) ∧ AX K d B cs vs
theorem upc_lsx : Upc (LsX K d cs) := fun v B B' e ⟨a, vs, h1, h2, h3⟩ => ⟨a, vs, h1, e _ _ h2, h3.up e⟩
theorem ev_lsx (h : EVs F tas σ B (fun vs B => AX K d B cs vs)) (hl : cs.length ≤ 16777216 := by exact Nat.le_of_ble_eq_true rfl) : EV F (tLst tas) σ B (LsX K d cs) :=
  h.newL (fun vs B1 _ p => by rw [AX.len p, sizeLine_eq]; exact hl) fun vs p B1 _ g hp => ⟨p, vs, rfl, upd_same, AX.up (Ex.new hp) g⟩
theorem rv_lsx (hl : cs.length + cs'.length ≤ 16777216) : RV2 F (rAddA K) B (LsX K d cs) (LsX K d cs') (LsX K d (cs ++ cs')) := fun B1 e0 H u v jj ⟨a, vs, hu, h1, g1⟩ ⟨b, us, hv, h2, g2⟩ Q q =>
  .inr (.inr (.inl ⟨a, b, vs, us, hu, hv, jj.e _ _ h1, jj.e _ _ h2, by rw [g1.len, g2.len, sizeLine_eq]; exact hl, fun p hp => q _ _ _ (Step.alloc jj.e hp) (jj.alloc hp) ⟨p, vs ++ us, rfl, upd_same, AX.up (Ex.new (fresh_back jj.e hp)) (g1.app g2)⟩⟩))
theorem rv_ixX {i : Int} (hi : 0 ≤ i ∧ i < (cs.length : Nat)) : RV2 F (rIx K) B (LsX K d cs) (DD K (.int i)) (fun v B => ∃ c f, cs[i.toNat]? = some (c, f) ∧ EvX K c f d v B) := fun B1 e0 H u v jj ⟨a, vs, hu, h1, g1⟩ hv Q q => by
  have hlt : i.toNat < vs.length := by rw [g1.len]; omega
  have hx : vs[i.toNat]? = some vs[i.toNat] := List.getElem?_eq_getElem hlt
  obtain ⟨w, hw⟩ : ∃ w, vs[i.toNat]? = some w := ⟨_, hx⟩
  obtain ⟨c, f, h2, h3⟩ := g1.get hw
  exact .inl ⟨a, vs, i, w, hu, dd_int hv, sq_of (jj.e _ _ h1), at_of (by omega) hw, q _ B1 H (Step.refl jj.e) jj ⟨c, f, h2, h3⟩⟩
theorem rc_lenX : RVc F (fun xs H Q => ∃ x n, xs = [x] ∧ LenV K x H n ∧ Q (.int (n : Nat)) H) B (fun vs B => ∃ v, vs = [v] ∧ LsX K d cs v B) (DD K (.int (cs.length : Nat))) := fun B1 e0 H us jj ⟨v, e, a, vs, hv, h1, g1⟩ Q q =>
  ⟨v, cs.length, e, by
    subst hv
    exact .inl ⟨vs, sq_of (jj.e _ _ h1), g1.len.symm⟩, q _ B1 H (Step.refl jj.e) jj (.int _)⟩
theorem evs_one {P : PV} (h : EV F te σ B P) : EVs F (tCons te tNil) σ B (fun vs B => ∃ v, vs = [v] ∧ P v B) := fun B1 e0 H j Q q =>
  h B1 e0 H j _ fun v B2 H2 s2 j2 p => q [v] B2 H2 s2 j2 ⟨v, rfl, p⟩
theorem sqv_lsx {v : V} (h : LsX K d cs v B) : SqV K (fun vs B => AX K d B cs vs) v B := by
  obtain ⟨a, vs, rfl, h1, g⟩ := h
  exact ⟨a, vs, rfl, .inl (sq_of h1), g⟩
end

/-! ### draws -/
def preT (ds : List PyData) : Prop := ∃ m : Int, ds = [.int m] ∧ 0 < m ∧ m < 1073741824
def posT (ds : List PyData) : PV := fun v _ => ∃ i m : Int, ds = [.int m] ∧ v = .int i ∧ 0 ≤ i ∧ i < m
abbrev spTake (K : PySem.W.Frag) : Sp := spX K preT posT
def itemsOf : PyData → List PyData
  | .list xs => xs
  | .tuple xs => xs
  | _ => []
def preP (ds : List PyData) : Prop := ∃ d xs, ds = [d] ∧ (d = .list xs ∨ d = .tuple xs) ∧ xs ≠ [] ∧ xs.length < 1073741824
def posP (K : PySem.W.Frag) (ds : List PyData) : PV := fun v B => ∃ d e, ds = [d] ∧ e ∈ itemsOf d ∧ Dd K B v e
abbrev spPick (K : PySem.W.Frag) : Sp := spX K preP (posP K)
section
variable {F : Fm} {K : PySem.W.Frag} {σ : L2.St} {B : Hp} {p : Addr} {i : Nat} {ta : TE} {E : XK}
theorem ev_take {m : Int} (hi : σ[i]? = some (some (.ref p))) (ha : ED (Fm.box p) K ta σ B (.int m)) (h0 : 0 < m) (h1 : m < 1073741824) : EV (Fm.box p) (tCall (spTake K) [] E (tCons (tVar i) (tCons ta tNil))) σ B (fun v _ => ∃ n : Int, v = .int n ∧ 0 ≤ n ∧ n < m) :=
  ev_X hi (eds_cons ha eds_nil) ⟨m, rfl, h0, h1⟩ fun v B1 _ ⟨n, m', e, ev, h2, h3⟩ => by
    cases e
    exact ⟨n, ev, h2, h3⟩
theorem ev_pick {d : PyData} {xs : List PyData} (hi : σ[i]? = some (some (.ref p))) (ha : ED (Fm.box p) K ta σ B d) (hd : d = .list xs ∨ d = .tuple xs) (h0 : xs ≠ []) (h1 : xs.length < 1073741824) :
    EV (Fm.box p) (tCall (spPick K) [] E (tCons (tVar i) (tCons ta tNil))) σ B (fun v B => ∃ e, e ∈ xs ∧ Dd K B v e) :=
  ev_X hi (eds_cons ha eds_nil) ⟨d, xs, rfl, hd, h0, h1⟩ fun v B1 _ ⟨d', e, ed, he, hv⟩ => by
    cases ed
    refine ⟨e, ?_, hv⟩
    rcases hd with rfl | rfl <;> exact he
/-- xs[i], i some place -/
theorem rv_pick {d : PyData} {xs : List PyData} (hd : d = .list xs ∨ d = .tuple xs) : RV2 F (rIx K) B (DD K d) (fun v _ => ∃ n : Int, v = .int n ∧ 0 ≤ n ∧ n < (xs.length : Nat)) (fun v B => ∃ e, e ∈ xs ∧ Dd K B v e) := fun B1 e0 H u v jj hu ⟨n, hv, h0, h1⟩ Q q => by
  have hlt : n.toNat < xs.length := by omega
  obtain ⟨w, hw⟩ : ∃ w, xs[n.toNat]? = some w := ⟨_, List.getElem?_eq_getElem hlt⟩
  have hm : w ∈ xs := List.mem_of_getElem? hw
  have ha : atI xs n = some w := by
    have e : n = ((n.toNat : Nat) : Int) := by omega
    have h := atI_nat hw
    rw [← e] at h
    exact h
  subst hv
  rcases hd with rfl | rfl
  · exact rd_ixL (F := F) ha B1 e0 H u (.int n) jj hu (.int n) Q fun w B2 H2 s k g => q w B2 H2 s k ⟨_, hm, g⟩
  · exact rd_ixT (F := F) ha B1 e0 H u (.int n) jj hu (.int n) Q fun w B2 H2 s k g => q w B2 H2 s k ⟨_, hm, g⟩
end
/-- _law_box(script, k): a new box -/
def spBox (K : PySem.W.Frag) : Sp := fun vs H Q _ => ∃ (a : Addr) (k : Int) (ns : List Int) (B : Hp), vs = [.ref a, .int k] ∧ Ex B H ∧ SqL K B a (ns.map V.int) ∧ ns.length ≤ 63 ∧ 0 ≤ k ∧ k ≤ 1000 ∧
  ∀ p B' H', Step (fun _ => False) B H B' H' → Ok (Fm.box p) B' H' → Q (.ref p) H'
section
variable {F : Fm} {K : PySem.W.Frag} {σ : L2.St} {B0 H0 B H : Hp} {D : Ends} {tz : TS} {i j l : Nat} {E : XK} {ta : TA} {d : PyData} {te : TE}
theorem qv_box {a : Addr} {ns : List Int} {k : Int} (e : Ex B H) (hi : σ[i]? = some (some (.ref a))) (hS : SqL K B a (ns.map V.int)) (hl : ns.length ≤ 63) (h0 : 0 ≤ k) (h1 : k ≤ 1000)
    (q : ∀ p B1 H1, Step (fun _ => False) B H B1 H1 → Ok (Fm.box p) B1 H1 → tz D (σ.set j (some (.ref p))) H1) : tSeq (tAsg (tCall (spBox K) [] E (tCons (tVar i) (tCons (tC (.int k)) tNil))) (gName j)) tz D σ H :=
  ⟨.ref a, hi, a, k, ns, B, rfl, e, hS, hl, h0, h1, q⟩
theorem qv_par3X {x y z : Addr × Str} (a : At F B0 H0 B H) (h : EVs F ta σ B (fun vs B => AX K d B [x, y, z] vs))
    (k : ∀ u v w B1 H1, Ex B B1 → At F B0 H0 B1 H1 → EvX K x.1 x.2 d u B1 → EvX K y.1 y.2 d v B1 → EvX K z.1 z.2 d w B1 → tz D (((σ.set i (some u)).set j (some v)).set l (some w)) H1) : tSeq (tPar3 i j l ta) tz D σ H :=
  h B (Ex.refl B) H a.j _ fun vs B1 H1 s1 j1 g => by
    cases g with
    | cons g1 t =>
      cases t with
      | cons g2 t =>
        cases t with
        | cons g3 t =>
          cases t
          exact ⟨_, _, _, rfl, k _ _ _ B1 H1 s1.bb (a.next s1 j1) g1 g2 g3⟩
def Sh (K : PySem.W.Frag) : PV := fun v B => ∃ d, Dd K B v d ∧ SeqAt.shaped d = true
theorem sh_of (h : ED F K te σ B d) (hs : SeqAt.shaped d = true) : EV F te σ B (Sh K) := h.imp fun v B1 _ hv => ⟨d, hv, hs⟩
end
end Dx

/-! The rules with the written part K named (also within comprehensions). -/
namespace Dx
open PySem PySem.Spec PyProof.Rows L2 Evl Ex
section
variable {X : Cx} (K : PySem.W.Frag) {e : Expr} {te : TE} {f : Str} {pos : Pos} {tg l : Expr} {tl : TE}
def rLnK (K : PySem.W.Frag) : List V → Hp → VK → Prop := fun xs H Q => ∃ x n, xs = [x] ∧ LenV K x H n ∧ Q (.int (n : Nat)) H
theorem call_lenK (hK : X.K = K := by rfl) : CallR X (.builtin "len") (rLnK K) := by subst hK; exact call_len
theorem ix_seqK (hK : X.K = K := by rfl) : IxR X (rIx K) := by subst hK; exact ix_seq
theorem op_addK (hK : X.K = K := by rfl) : OpR X (binaryOp .Add) (rAddA K) := by subst hK; exact op_addA
theorem op_eqDK (hu : X.A.units + 64 < cLine) (hK : X.K = K := by rfl) : OpR X (compareOp .Eq) (rEqD K) := by subst hK; exact op_eqD hu
theorem op_neDK (hu : X.A.units + 64 < cLine) (hK : X.K = K := by rfl) : OpR X (compareOp .NotEq) (rNeD K) := by subst hK; exact op_neD hu
theorem op_inK (hK : X.K = K := by rfl) : OpR X (compareOp .In) (rIn K false) := by subst hK; exact op_in_seq
theorem op_ninK (hK : X.K = K := by rfl) : OpR X (compareOp .NotIn) (rIn K true) := by subst hK; exact op_notIn_seq
theorem call_isiK1 (hK : X.K = K := by rfl) : CallR X (.builtin "isinstance") (rIsi K) := by subst hK; exact call_isi
theorem call_isXK (hK : X.K = K := by rfl) : CallR X (.builtin "isinstance") (rIsX K) := by subst hK; exact call_isX
theorem pe_oxfK (he : PE X e te) (hK : X.K = K := by rfl) (hb : attributeBase e f X.env (eval e X.env) = eval e X.env := by rfl) : PE X (.Attribute e f pos) (tOxf K f te) := by subst hK; exact pe_oxf he hb
theorem pe_fldK (he : PE X e te) (hK : X.K = K := by rfl) (hb : attributeBase e f X.env (eval e X.env) = eval e X.env := by rfl) : PE X (.Attribute e f pos) (tFld K te f) := by subst hK; exact pe_fld he hb
theorem pi_seqK (hl : PE X l tl) (hK : X.K = K := by rfl) : PI X tg l (iSeq K tl) := by subst hK; exact pi_seq hl
theorem cr_allK (hc : X.calm = true := by rfl) (hK : X.K = K := by rfl) : CallR X (.builtin "all") (rAll K) := by subst hK; exact cr_all hc
theorem cr_anyK (hc : X.calm = true := by rfl) (hK : X.K = K := by rfl) : CallR X (.builtin "any") (rAny K) := by subst hK; exact cr_any hc
theorem pt_tru (he : PE X e te) (ht : ∀ whole, isTrue e X.env whole = (do let v ← whole; standAt e.pos; holding [v] (truthy v)) := by intro _; rfl) (hK : X.K = K := by rfl) :
    PT X e (fun σ H Q => te σ H fun x H' => ∃ k, TruV K x H' k ∧ Q k H') := by subst hK; exact pt_truth he ht
end
end Dx

/-! What the top has written: an error's class, a def, a class. -/
namespace Dx
open PySem PySem.Spec PyProof.Rows L2 Evl Ex
structure XFact (K : PySem.W.Frag) (x f qual : Str) (st : Stmt) (C : Addr) : Prop where
  a : PySem.W.nsIn K mainGlobals x = some (some (.ref C))
  oc : OexC K C
  xf : XfC K C
  isc : IsC K C
  no : PySem.W.findIn K (.ref C) f = some none
  fn : ∃ f1 fd, PySem.W.findIn K (.ref C) "__init__" = some (some (.ref f1)) ∧ PySem.W.typeIn K (.ref f1) = some (.type "function") ∧ Fun K "__init__" qual st f1 fd
theorem xfact_mk {K : PySem.W.Frag} {x f qual : Str} {st : Stmt} {C f1 : Addr} {nm q : Str} {N : Addr} {bs bm : List Value} {sn : List Str} {sub : List Value} {ab : Bool} {col : Option Bool} {dd : Option Addr} {m0 m1 m2 m3 m5 : Option Value}
    {od1 an1 : Option Addr} {sl1 : Array (Option Value)} {oc1 dc1 kV1 pm1 cd1 ct1 : Value}
    (aC : PySem.W.nsIn K mainGlobals x = some (some (.ref C)))
    (xL : K.lookup C = some (excClassObj nm q C N bs bm true sn sub ab col dd m0 m1 m2 m3 m5 "ValueError.__new__")) (hbm : PySem.HandSPX.refsVE bm = true)
    (sa : PySem.W.findIn K (.ref C) "__setattr__" = some (some (.builtin "object.__setattr__"))) (ga : PySem.W.findIn K (.ref C) "__getattribute__" = some (some (.builtin "BaseException.__getattribute__"))) (gg : PySem.W.findIn K (.ref C) "__getattr__" = some none) (nb : PySem.W.findIn K (.ref C) f = some none)
    (a1 : PySem.W.findIn K (.ref C) "__init__" = some (some (.ref f1))) (t1 : PySem.W.typeIn K (.ref f1) = some (.type "function"))
    (l1 : K.lookup f1 = some ⟨oc1, od1, .func (PySem.W.fnOf "__init__" qual (defArgs st) (defBody st) (defScope st) .none kV1 dc1 pm1 an1 cd1 ct1), sl1⟩) (c1 : PySem.W.codeIn K cd1 qual = true) (k1 : PySem.W.keepIn K (.ref f1) = true)
    (kC : PySem.W.keepIn K (.ref C) = true) (eC : PySem.W.subIn K (.ref C) (.type "BaseException") = some true) (tC : PySem.W.typeIn K (.ref C) = some (.type "type")) (hC : PySem.W.hasDictIn K C = true)
    (iC : PySem.W.isClsIn K C = true) (ca : PySem.W.findIn K (.ref C) "__class__" = some (some (.builtin "object.__class__"))) (sg : PySem.W.specialIn K (.builtin "object.__class__") "__get__" = some (some (.builtin "getset_descriptor.__get__")))
    (tk : PySem.W.takesIn K (.builtin "object.__class__") = some true) (mo : PySem.W.mroIn K C (.type "object") = some true) : XFact K x f qual st C where
  a := aC
  oc := ⟨⟨nm, q, N, bs, bm, sn, sub, ab, col, dd, m0, m1, m2, m3, m5, xL, hbm⟩, sa, eC, tC, kC⟩
  xf := ⟨ga, gg, eC, hC⟩
  isc := ⟨iC, ca, sg, tk, mo⟩
  no := nb
  fn := ⟨f1, _, a1, t1, fun_mk l1 c1 k1⟩
theorem XFact.at {P : Program} {w : World} {K : PySem.W.Frag} {mg : Str → Option Value} {base h : Heap} {x f qual : Str} {st : Stmt} {C : Addr} (e : XFact K x f qual st C) (X : K.In h) (G : h.Ns mainGlobals mg)
    (ok : ∀ f1 fd, Fun K "__init__" qual st f1 fd → FnOk P w K mg base CX0 1 f1 fd ["self", f] (spInit C f)) (bnd : ∀ f1 fd, Fun K "__init__" qual st f1 fd → L2.Binds K fd ["self", f] []) : ExcAt P w K mg base x f C := by
  obtain ⟨f1, fd, h1, h2, F⟩ := e.fn
  exact ⟨e.oc, e.xf, e.isc, e.no, PySem.W.mg_of X G e.a, f1, fd, h1, h2, ok f1 fd F, bnd f1 fd F⟩
/-- a def of the module -/
structure DFact (K : PySem.W.Frag) (x : Str) (st : Stmt) (f : Addr) : Prop where
  a : PySem.W.nsIn K mainGlobals x = some (some (.ref f))
  fn : ∃ fd, Fun K x x st f fd
theorem dfact_mk {K : PySem.W.Frag} {x : Str} {st : Stmt} {f : Addr} {od1 an1 : Option Addr} {sl1 : Array (Option Value)} {oc1 dc1 kV1 pm1 cd1 ct1 : Value} (a : PySem.W.nsIn K mainGlobals x = some (some (.ref f)))
    (l1 : K.lookup f = some ⟨oc1, od1, .func (PySem.W.fnOf x x (defArgs st) (defBody st) (defScope st) .none kV1 dc1 pm1 an1 cd1 ct1), sl1⟩) (c1 : PySem.W.codeIn K cd1 x = true) (k1 : PySem.W.keepIn K (.ref f) = true) : DFact K x st f := ⟨a, _, fun_mk l1 c1 k1⟩
theorem DFact.callee {P : Program} {w : World} {K : PySem.W.Frag} {mg : Str → Option Value} {base h : Heap} {x : Str} {st : Stmt} {f : Addr} {k : Nat} {ps : List Str} {sp : Sp} (d : DFact K x st f) (X : K.In h) (G : h.Ns mainGlobals mg)
    (ok : ∀ fd, Fun K x x st f fd → FnOk P w K mg base CX0 k f fd ps sp) (b : ∀ fd, Fun K x x st f fd → L2.Binds K fd ps []) : Callee P w K mg base x k ps sp := by
  obtain ⟨fd, F⟩ := d.fn
  exact ⟨f, fd, ok fd F, PySem.W.mg_of X G d.a, F.kp, b fd F⟩
/-- a class whose instances have a dict, and its __init__ -/
structure CFact (K : PySem.W.Frag) (x qual : Str) (st : Stmt) (C : Addr) : Prop where
  a : PySem.W.nsIn K mainGlobals x = some (some (.ref C))
  made : ∃ f1 fd, Mk K C f1 ∧ Fun K "__init__" qual st f1 fd
theorem cfact_mk {K : PySem.W.Frag} {x qual : Str} {st : Stmt} {C f1 : Addr} {od1 an1 : Option Addr} {sl1 : Array (Option Value)} {oc1 dc1 kV1 pm1 cd1 ct1 : Value} (a : PySem.W.nsIn K mainGlobals x = some (some (.ref C)))
    (mk : PySem.W.makesIn K C = true) (a1 : PySem.W.findIn K (.ref C) "__init__" = some (some (.ref f1))) (i1 : PySem.W.isFn K (.ref f1) = true) (kc : PySem.W.keepIn K (.ref C) = true)
    (l1 : K.lookup f1 = some ⟨oc1, od1, .func (PySem.W.fnOf "__init__" qual (defArgs st) (defBody st) (defScope st) .none kV1 dc1 pm1 an1 cd1 ct1), sl1⟩) (c1 : PySem.W.codeIn K cd1 qual = true) (k1 : PySem.W.keepIn K (.ref f1) = true) : CFact K x qual st C :=
  ⟨a, f1, _, ⟨mk, a1, i1, kc⟩, fun_mk l1 c1 k1⟩
/-- G, the class above the errors -/
structure GFact (K : PySem.W.Frag) (x : Str) (C : Addr) : Prop where
  a : PySem.W.nsIn K mainGlobals x = some (some (.ref C))
  rd : ClX.CRead K C (.type "type")
  gi : PySem.W.findCls K (.ref C) (.type "type") "__init__" = some (.val (.builtin "ValueError.__init__"))
  eC : PySem.W.subIn K (.ref C) (.type "BaseException") = some true
  hC : PySem.W.hasDictIn K C = true
  tC : PySem.W.typeIn K (.ref C) = some (.type "type")
theorem gfact_mk {K : PySem.W.Frag} {x : Str} {C : Addr} (a : PySem.W.nsIn K mainGlobals x = some (some (.ref C))) (r1 : PySem.W.readsIn K C (.type "type") = true) (r2 : PySem.W.specialIn K (.ref C) "__getattribute__" = some (some (.builtin "type.__getattribute__")))
    (gi : PySem.W.findCls K (.ref C) (.type "type") "__init__" = some (.val (.builtin "ValueError.__init__"))) (eC : PySem.W.subIn K (.ref C) (.type "BaseException") = some true) (hC : PySem.W.hasDictIn K C = true) (tC : PySem.W.typeIn K (.ref C) = some (.type "type")) : GFact K x C := ⟨a, ⟨r1, r2⟩, gi, eC, hC, tC⟩
end Dx

/-! Which kinds come back to themselves: plain mathematics. -/
namespace Gm
/-- x is come to from k by one or more steps -/
inductive Rch (E : List (Int × Int)) (k : Int) : Int → Prop
  | one {x : Int} : (k, x) ∈ E → Rch E k x
  | more {y x : Int} : Rch E k y → (y, x) ∈ E → Rch E k x
theorem Rch.mono {E E' : List (Int × Int)} (h : ∀ p, p ∈ E → p ∈ E') {k x : Int} (r : Rch E k x) : Rch E' k x := by
  induction r with
  | one e => exact .one (h _ e)
  | more _ e ih => exact .more ih (h _ e)
def Closed (E : List (Int × Int)) (k : Int) (S : List Int) : Prop := ∀ a b, (a, b) ∈ E → (a = k ∨ a ∈ S) → b ∈ S
theorem closed_rch {E : List (Int × Int)} {k : Int} {S : List Int} (h : Closed E k S) {x : Int} (r : Rch E k x) : x ∈ S := by
  induction r with
  | one e => exact h _ _ e (.inl rfl)
  | more _ e ih => exact h _ _ e (.inr ih)
/-- at most n different ones -/
theorem len_filter (a : Int) : ∀ L : List Int, L.Nodup → L.length ≤ (L.filter fun x => x != a).length + 1
  | [], _ => Nat.zero_le _
  | b :: L, h => by
    have hb := (List.nodup_cons.mp h).1
    have hL := (List.nodup_cons.mp h).2
    by_cases e : b = a
    · subst e
      have : L.filter (fun x => x != b) = L := List.filter_eq_self.mpr fun x hx => by
        have : x ≠ b := fun z => hb (z ▸ hx)
        simpa using this
      rw [List.filter_cons]
      simp [this]
    · have ih := len_filter a L hL
      have e' : (b != a) = true := by simpa using e
      rw [List.filter_cons, if_pos e', List.length_cons, List.length_cons]
      omega
theorem pig : ∀ (n : Nat) (L : List Int), L.Nodup → (∀ x ∈ L, 0 ≤ x ∧ x < (n : Int)) → L.length ≤ n
  | 0, L, _, h => by
    cases L with
    | nil => exact Nat.le_refl _
    | cons x L =>
      have := h x List.mem_cons_self
      omega
  | n + 1, L, hn, h => by
    have h1 := len_filter (n : Int) L hn
    have h2 := pig n (L.filter fun x => x != (n : Int)) (hn.filter _) fun x hx => by
      obtain ⟨hm, hx⟩ := List.mem_filter.mp hx
      have h3 := h x hm
      have h4 : x ≠ (n : Int) := by simpa using hx
      omega
    omega
/-- the law's turn -/
def turn (E : List (Int × Int)) (k : Int) (S : List Int) : List Int := S ++ (E.filter fun p => (p.1 == k || S.contains p.1) && !S.contains p.2).map (·.2)
def turns (E : List (Int × Int)) (k : Int) : Nat → List Int
  | 0 => []
  | t + 1 => turn E k (turns E k t)
theorem mem_turn {E : List (Int × Int)} {k : Int} {S : List Int} {x : Int} : x ∈ turn E k S ↔ x ∈ S ∨ ∃ a, (a, x) ∈ E ∧ (a = k ∨ a ∈ S) := by
  unfold turn
  rw [List.mem_append, List.mem_map]
  constructor
  · rintro (h | ⟨⟨a, b⟩, hm, rfl⟩)
    · exact .inl h
    · obtain ⟨hE, hc⟩ := List.mem_filter.mp hm
      simp only [Bool.and_eq_true, Bool.or_eq_true, beq_iff_eq, List.contains_iff_mem] at hc
      exact .inr ⟨a, hE, hc.1⟩
  · rintro (h | ⟨a, hE, hc⟩)
    · exact .inl h
    · by_cases hx : x ∈ S
      · exact .inl hx
      · refine .inr ⟨(a, x), List.mem_filter.mpr ⟨hE, ?_⟩, rfl⟩
        simp only [Bool.and_eq_true, Bool.or_eq_true, beq_iff_eq, List.contains_iff_mem, Bool.not_eq_true', Bool.eq_false_iff, ne_eq]
        exact ⟨hc, hx⟩
theorem turns_sound {E : List (Int × Int)} {k : Int} : ∀ (t : Nat) (x : Int), x ∈ turns E k t → Rch E k x
  | 0, x, h => by cases h
  | t + 1, x, h => by
    rcases mem_turn.mp h with h | ⟨a, hE, rfl | ha⟩
    · exact turns_sound t x h
    · exact .one hE
    · exact .more (turns_sound t a ha) hE
theorem turns_many {E : List (Int × Int)} {k : Int} : ∀ t : Nat, (∃ s, s ≤ t ∧ Closed E k (turns E k s)) ∨ ∃ L : List Int, L.Nodup ∧ L.length = t ∧ ∀ x ∈ L, x ∈ turns E k t
  | 0 => .inr ⟨[], List.nodup_nil, rfl, fun _ h => nomatch h⟩
  | t + 1 => by
    rcases turns_many (E := E) (k := k) t with ⟨s, hs, hc⟩ | ⟨L, h1, h2, h3⟩
    · exact .inl ⟨s, by omega, hc⟩
    · by_cases hc : Closed E k (turns E k t)
      · exact .inl ⟨t, by omega, hc⟩
      · have : ∃ a b, (a, b) ∈ E ∧ (a = k ∨ a ∈ turns E k t) ∧ b ∉ turns E k t := by
          apply Classical.byContradiction
          intro hno
          refine hc fun a b hE ha => ?_
          apply Classical.byContradiction
          intro hb
          exact hno ⟨a, b, hE, ha, hb⟩
        obtain ⟨a, b, hE, ha, hb⟩ := this
        refine .inr ⟨b :: L, List.nodup_cons.mpr ⟨fun hm => hb (h3 b hm), h1⟩, by rw [List.length_cons, h2], fun x hx => ?_⟩
        rcases List.mem_cons.mp hx with rfl | hx
        · exact mem_turn.mpr (.inr ⟨a, hE, ha⟩)
        · exact mem_turn.mpr (.inl (h3 x hx))
theorem closed_turn {E : List (Int × Int)} {k : Int} {S : List Int} (h : Closed E k S) : Closed E k (turn E k S) := fun a b hE ha => by
  refine mem_turn.mpr ?_
  rcases ha with ha | ha
  · exact .inl (h a b hE (.inl ha))
  · rcases mem_turn.mp ha with h1 | ⟨c, hc, h1⟩
    · exact .inl (h a b hE (.inr h1))
    · exact .inl (h a b hE (.inr (h c a hc h1)))
theorem closed_later {E : List (Int × Int)} {k : Int} {s : Nat} (h : Closed E k (turns E k s)) : ∀ d : Nat, Closed E k (turns E k (s + d))
  | 0 => h
  | d + 1 => closed_turn (closed_later h d)
/-- behind n + 1 turns, the kinds below n, just what is come to is found -/
theorem turns_all {E : List (Int × Int)} {k : Int} {n : Nat} (hE : ∀ a b, (a, b) ∈ E → 0 ≤ b ∧ b < (n : Int)) (x : Int) : x ∈ turns E k (n + 1) ↔ Rch E k x := by
  refine ⟨turns_sound _ _, fun r => ?_⟩
  rcases turns_many (E := E) (k := k) (n + 1) with ⟨s, hs, hc⟩ | ⟨L, h1, h2, h3⟩
  · have := closed_later hc (n + 1 - s)
    rw [show s + (n + 1 - s) = n + 1 by omega] at this
    exact closed_rch this r
  · have := pig n L h1 fun y hy => by
      have hr := turns_sound _ _ (h3 y hy)
      cases hr with
      | one e => exact hE _ _ e
      | more _ e => exact hE _ _ e
    omega
theorem turn_len (E : List (Int × Int)) (k : Int) (S : List Int) : (turn E k S).length ≤ S.length + E.length := by
  unfold turn
  rw [List.length_append, List.length_map]
  have := List.length_filter_le (fun p : Int × Int => (p.1 == k || S.contains p.1) && !S.contains p.2) E
  omega
theorem turns_len (E : List (Int × Int)) (k : Int) : ∀ t, (turns E k t).length ≤ t * E.length
  | 0 => Nat.zero_le _
  | t + 1 => by
    have h1 := turn_len E k (turns E k t)
    have h2 := turns_len E k t
    show (turn E k (turns E k t)).length ≤ _
    rw [Nat.add_mul, Nat.one_mul]
    omega
/-- the first kind that comes back to itself, if there is one -/
inductive BK (E : List (Int × Int)) (n : Int) : Option Int → Prop
  | some (k : Int) : 0 ≤ k → k < n → Rch E k k → (∀ j, 0 ≤ j → j < k → ¬ Rch E j j) → BK E n (some k)
  | none : (∀ j, 0 ≤ j → j < n → ¬ Rch E j j) → BK E n none
theorem BK.uniq {E : List (Int × Int)} {n : Int} {a b : Option Int} (h : BK E n a) (g : BK E n b) : a = b := by
  cases h with
  | some k h0 h1 h2 h3 =>
    cases g with
    | some j g0 g1 g2 g3 =>
      rcases Int.lt_trichotomy k j with h | h | h
      · exact absurd h2 (g3 k h0 h)
      · rw [h]
      · exact absurd g2 (h3 j g0 h)
    | none g => exact absurd h2 (g k h0 h1)
  | none h =>
    cases g with
    | some j g0 g1 g2 g3 => exact absurd g2 (h j g0 g1)
    | none g => rfl
theorem BK.ext {E E' : List (Int × Int)} {n : Int} {a : Option Int} (e : ∀ p, p ∈ E ↔ p ∈ E') (h : BK E n a) : BK E' n a := by
  have r : ∀ j x, Rch E j x ↔ Rch E' j x := fun j x => ⟨Rch.mono fun p => (e p).mp, Rch.mono fun p => (e p).mpr⟩
  cases h with
  | some k h0 h1 h2 h3 => exact .some k h0 h1 ((r k k).mp h2) fun j a b c => h3 j a b ((r j j).mpr c)
  | none h => exact .none fun j a b c => h j a b ((r j j).mpr c)
end Gm

/-! Shared by the laws: what is an integer; several except clauses with a name; an own ==. -/
namespace Dx
open PySem PySem.Spec PyProof.Rows L2 Evl Ex
structure TB (mg : Str → Option Value) : Prop where
  m_len : mg "len" = none
  m_abs : mg "abs" = none
  m_int : mg "int" = none
  m_str : mg "str" = none
  m_bool : mg "bool" = none
  m_tuple : mg "tuple" = none
  m_list : mg "list" = none
  m_all : mg "all" = none
  m_isinstance : mg "isinstance" = none
  m_range : mg "range" = none
/-! ### what is an integer -/
def isI : PyData → Bool
  | .int _ => true
  | _ => false
def fInt : List PyData → PyData
  | [d] => .bool (isI d)
  | _ => .none
def inB (d : PyData) (lo hi : Int) : Bool := match d with
  | .int i => decide (lo ≤ i) && decide (i ≤ hi)
  | _ => false
def fBetween : List PyData → PyData
  | [d, .int lo, .int hi] => .bool (inB d lo hi)
  | _ => .none
def pre1 (ds : List PyData) : Prop := ∃ d, ds = [d]
def preB (ds : List PyData) : Prop := ∃ d lo hi, ds = [d, .int lo, .int hi]
abbrev spInt (K : PySem.W.Frag) : Sp := spF K pre1 fInt
abbrev spBetween (K : PySem.W.Frag) : Sp := spF K preB fBetween
theorem arg1 {K : PySem.W.Frag} {B : Hp} {vs : List V} {d : PyData} (h : DdAll K B vs [d]) : ∃ v, vs = [v] ∧ Dd K B v d := by
  cases h with
  | cons h1 t =>
    cases t
    exact ⟨_, rfl, h1⟩
theorem arg2 {K : PySem.W.Frag} {B : Hp} {vs : List V} {d e : PyData} (h : DdAll K B vs [d, e]) : ∃ v u, vs = [v, u] ∧ Dd K B v d ∧ Dd K B u e := by
  cases h with
  | cons h1 t =>
    obtain ⟨u, rfl, h2⟩ := arg1 t
    exact ⟨_, u, rfl, h1, h2⟩
theorem arg3 {K : PySem.W.Frag} {B : Hp} {vs : List V} {d e c : PyData} (h : DdAll K B vs [d, e, c]) : ∃ v u y, vs = [v, u, y] ∧ Dd K B v d ∧ Dd K B u e ∧ Dd K B y c := by
  cases h with
  | cons h1 t =>
    obtain ⟨u, y, rfl, h2, h3⟩ := arg2 t
    exact ⟨_, u, y, rfl, h1, h2, h3⟩

/-! ### try: .. except X as n: .. except Y as n: .. -/
abbrev Clause := Value × (Addr → Value → Option Addr → TS)
/-- the ends of a suite behind which the name is gone -/
def goneE (i : Nat) (D : Ends) : Ends := { nx := fun σ' H' => D.nx (σ'.set i none) H', rt := D.rt, bk := fun σ' H' => D.bk (σ'.set i none) H', ct := fun σ' H' => D.ct (σ'.set i none) H' }
def wNames (K : PySem.W.Frag) (i : Nat) (Wout : WX) (D : Ends) : List Clause → WX
  | [] => Wout
  | (c, ts) :: r => fun cls d σ H => ∃ b, PySem.W.exmOne K cls c = some b ∧ (b = true → ∀ a, H a = none → ts a cls d (goneE i D) (σ.set i (some (.ref a))) H) ∧ (b = false → wNames K i Wout D r cls d σ H)
inductive ClsOk (X : Cx) (n : Str) : List ExceptHandler → List Clause → Prop
  | nil : ClsOk X n [] []
  | cons {x : Str} {c : Value} {ts : Addr → Value → Option Addr → TS} {b₀ : Stmt} {suite : List Stmt} {np pos' : Pos} {hds : List ExceptHandler} {l : List Clause} (hc : Names X x c)
      (hsu : ∀ (a : Addr) (oe : Obj) (cls : Value) (d : Option Addr) (pn : List (Addr × Obj)), Zc cls d oe → (∃ vs, oe.data = .fields vs) → PSs (X.suite a ((a, oe) :: pn)) (b₀ :: suite) (ts a cls d)) (r : ClsOk X n hds l) :
      ClsOk X n (.ExceptHandler (some (.Name x np)) (some n) (b₀ :: suite) pos' :: hds) ((c, ts) :: l)
section
variable {X : Cx} {n : Str} {i : Nat} {body : List Stmt} {h₀ : ExceptHandler} {hds : List ExceptHandler} {l : List Clause} {pos : Pos} {tb : WX → TS} {Wout : WX}
theorem ps_try_names (hs : X.stack = X.env :: X.outer) (hf : X.env.frame = some X.env.locals) (hN : X.N.Nodup) (hi : X.N[i]? = some n) (hln : X.env.kindOf n = some .local) (tk : Takes X Wout)
    (hb : ∀ (W : WX) (pn : List (Addr × Obj)) (xe : Value → Shared → Prop), Takes (X.tr pn xe) W → PassesOwn (model X.prog X.w) X.A X.env xe → PSs (X.tr pn xe) body (tb W))
    (hh : ClsOk X n (h₀ :: hds) l) : PS X (.Try body (h₀ :: hds) [] [] pos) (fun D σ H => tb (wNames X.K i Wout D l) D σ H) := by
  refine ⟨fun pins s σ H D I h => ?_⟩
  have ok := I.ok
  have hfr : X.A.frames = some (X.env :: X.outer) := by rw [ok.frames, hs]
  have hloc : Loc X.env.scope n := .inl hln
  refine wpAny_Try_except ?_
  refine wpAny_mono ((hb (wNames X.K i Wout D l) (X.pn ++ pins) (fun e s₁ => wpAny (model X.prog X.w) X.A (noteFrame e X.env) (fun _ s₂ => wpAny (model X.prog X.w) X.A (setFlight e none) (fun _ s₃ =>
    wpAny (model X.prog X.w) X.A (handleBy e X.env (h₀ :: hds)) (SP X pins D) X.xe s₃) X.xe s₂) X.xe s₁) (fun u s' xx => ?_) PassesOwn.looking).run [] s σ H D (I.toTry _) h) (fun f s1 hsp => ?_) (fun e s1 he => he)
  · obtain ⟨a, B, sI, pins', σ', H', cls, d, rfl, J', nb, up, sky, na, os, ag, w⟩ := xx
    have J : Inv X pins σ' H' sI := J'.ofTry ok
    have sky' : Sky B (X.env :: X.outer) a (Zc cls d) X.env.locals s'.heap := by rw [← hs]; exact sky
    show wpAny (model X.prog X.w) X.A (noteFrame (.ref a) X.env) _ _ _
    refine Sky.land Zc.steady hfr hf sky' fun h3 fl3 up3 => ?_
    have J3 : Inv X pins σ' H' { s' with heap := h3 } := J.landed nb fl3.1 (up.trans up3) os ag
    obtain ⟨oe3, vs3, he3, hz3, hd3⟩ := fl3.there
    have nfr : a ∉ frs (X.env :: X.outer) := fun hm => by
      obtain ⟨_, o', e', hnf⟩ := fl3.2.2.1.mem hm
      have z : some oe3 = some o' := he3.symm.trans e'
      cases z
      exact hnf _ hd3
    have nL : a ≠ X.env.locals := fun z => nfr (List.mem_filterMap.mpr ⟨X.env, List.mem_cons_self, by rw [hf, z]⟩)
    have nF : a ∉ X.fs := fun hm => by
      obtain ⟨e, he, q⟩ := List.mem_filterMap.mp hm
      exact nfr (List.mem_filterMap.mpr ⟨e, List.mem_cons_of_mem _ he, q⟩)
    have S3 := J3.suite he3 hd3 na nL nF
    have go : ∀ {hds' : List ExceptHandler} {l' : List Clause}, ClsOk X n hds' l' → wNames X.K i Wout D l' cls d σ' H' →
        wpAny (model X.prog X.w) X.A (handleBy (.ref a) X.env hds') (SP X pins D) X.xe { s' with heap := h3 } := by
      intro hds' l' hk
      induction hk with
      | nil =>
        intro w
        refine wpAny_handleBy_nil ?_
        obtain ⟨k1, k2, k3, oe, vs, T, oT, ts', he, hz, hd, h1, hr⟩ := id fl3
        unfold PySem.passOn
        refine wpAny_bind (wpAny_field he hd h1 ?_)
        rw [if_neg (show ¬ ((Value.ref T == Value.none) = true) from by simp)]
        have fin : wpAny (model X.prog X.w) X.A (setFlight (.ref a) X.env.frame) (fun _ s4 => wpAny (model X.prog X.w) X.A (throw (.ref a) : Sem Flow) (SP X pins D) X.xe s4) X.xe { s' with heap := h3 } := by
          rw [hf]
          refine HandSPX.setFlight_upZ fl3 fun h4 hh4 up4 => wpAny_throw (tk _ _ ?_)
          exact ⟨a, B, sI, pins, σ', H', cls, d, rfl, J, nb, (up.trans up3).trans up4, .inr (.inr (by rw [hs]; exact hh4)), na, os, ag, w⟩
        first
          | exact wpAny_bind (wpAny_pure (wpAny_bind fin))
          | exact wpAny_bind fin
      | @cons x c ts b₀ suite np pos' hds2 l2 hc hsu r ih =>
        intro w
        obtain ⟨b, hb1, hyes, hno⟩ := w
        refine wpAny_handleBy_cons (codeAny_handlers_test ?_) (by intro q; cases q)
        have LT : PySem.W.Looks (model X.prog X.w) h3 (typeOf (.ref a)) cls := fun A Q E s k q => wpAny_typeOf_ref (k _ _ he3) (by rw [hz3.1]; exact q)
        have LM := PySem.W.exm_one (M := model X.prog X.w) (J3.kIn) LT hb1
        have test : ∀ {Q : Value → Shared → Prop} {E : Value → Shared → Prop}, Q c { s' with heap := h3 } → wpAny (model X.prog X.w) (X.A.mark (some (.ref a))) (eval (.Name x np) X.env) Q E { s' with heap := h3 } := fun {Q E} q => by
          obtain ⟨hg, hdbg, hm | ⟨hm, hv, hnn⟩⟩ := hc
          · exact ld_glob (X := X.suite a ((a, oe3) :: (X.pn ++ pins))) S3 hg hm q hdbg
          · exact ld_blt (X := X.suite a ((a, oe3) :: (X.pn ++ pins))) S3 hg hm hv q hnn hdbg
        refine test (LM.here ?_)
        cases b with
        | true =>
          refine codeAny_handlers_suite_as ?_
          refine HandSPX.lands_againZ fl3 fun h4 fl4 up4 => ?_
          have J4 : Inv X pins σ' H' { s' with heap := h4 } := J.landed nb fl4.1 ((up.trans up3).trans up4) os ag
          obtain ⟨oe4, vs4, he4, hz4, hd4⟩ := fl4.there
          have S4 := J4.suite he4 hd4 na nL nF
          refine store_ok (X := X.suite a ((a, oe4) :: (X.pn ++ pins))) (v := .ref a) S4 hN hi hloc rfl (fun s5 S5 => ?_) (.inr hln)
          refine wpAny_mono ((hsu a oe4 cls d (X.pn ++ pins) hz4 ⟨_, hd4⟩).run [] s5 _ H' _ S5 (hyes rfl a na)) (fun f s6 hsp => ?_) (fun _ _ z => False.elim z)
          have end_ : ∀ {σ6 : L2.St} {H6 : Hp} {Q : Shared → Prop}, Inv (X.suite a ((a, oe4) :: (X.pn ++ pins))) [] σ6 H6 s6 → (∀ s7, Inv X pins (σ6.set i none) H6 s7 → Q s7) →
              wpAny (model X.prog X.w) X.A (do bindName X.env n .none; unbindBehindTheSuite X.env n pos') (fun _ s7 => Q s7) X.xe s6 := fun {σ6 H6 Q} S6 hq => gone_ok (S6.unsuite ok) hN hi hln hq
          cases f with
          | next =>
            obtain ⟨σ6, H6, S6, q6⟩ := hsp
            exact end_ S6 fun s7 J7 => ⟨_, _, J7, q6⟩
          | brk =>
            obtain ⟨σ6, H6, S6, q6⟩ := hsp
            exact end_ S6 fun s7 J7 => ⟨_, _, J7, q6⟩
          | cont =>
            obtain ⟨σ6, H6, S6, q6⟩ := hsp
            exact end_ S6 fun s7 J7 => ⟨_, _, J7, q6⟩
          | ret u =>
            obtain ⟨v6, σ6, H6, S6, r6, q6⟩ := hsp
            exact end_ S6 fun s7 J7 => ⟨_, _, _, J7, r6, q6⟩
        | false =>
          show wpAny _ X.A (handleBy (.ref a) X.env hds2) _ _ _
          exact ih (hno rfl)
    exact go hh w
  · cases f with
    | next =>
      obtain ⟨σ', H', J', q⟩ := hsp
      exact wpAny_execs_nil ⟨σ', H', J'.ofTry ok, q⟩
    | brk =>
      obtain ⟨σ', H', J', q⟩ := hsp
      exact ⟨σ', H', J'.ofTry ok, q⟩
    | cont =>
      obtain ⟨σ', H', J', q⟩ := hsp
      exact ⟨σ', H', J'.ofTry ok, q⟩
    | ret u =>
      obtain ⟨v, σ', H', J', r, q⟩ := hsp
      exact ⟨v, σ', H', J'.ofTry ok, r, q⟩
end

/-! ### x == y, x an instance with an own __eq__ -/
section
variable {X : Cx} {CX : CXT} {C f : Addr} {fd : FuncData} {ps : List Str} {sp : Sp} {E : XK} {k : Nat}
/-- y an instance of the same class | a tuple -/
def rOwnEq (K : PySem.W.Frag) (C : Addr) (sp : Sp) (E : XK) : R2 := fun x y H Q => ∃ a dx fs, x = .ref a ∧ H a = some (.ins C dx fs) ∧ ((∃ b dy gs, y = .ref b ∧ H b = some (.ins C dy gs)) ∨ ∃ b xs, y = .ref b ∧ SqT K H b xs) ∧ sp [x, y] H (fun v H' => (∃ r, v = .bl r) ∧ Q v H') E
theorem op_ownEq (F : FnOk X.prog X.w X.K X.mg X.base CX k f fd ps sp) (hr : Room k X.A) (hs : PySem.W.findIn X.K (.ref C) "__eq__" = some (some (.ref f))) (hf : PySem.W.isFn X.K (.ref f) = true) (hb : L2.Binds X.K fd ps []) (nf : PySem.W.notFirst X.K C (.type "tuple") = true) (hx : Passes CX X E) :
    OpR X (compareOp .Eq) (rOwnEq X.K C sp E) := by
  intro pins s σ H x y v u Q I rx ry hq
  obtain ⟨a, dx, fs, rfl, ha, hy, hsp⟩ := hq
  cases rx
  show wpAny (model X.prog X.w) X.A (richCompare .Eq (.ref a) u) (EP X pins σ Q) X.xe s
  obtain ⟨mA, J, _⟩ := ins_get I.hok ha
  obtain ⟨od, J, _⟩ := J.look
  obtain ⟨m, hF⟩ := I.fr
  have run : wpAny (model X.prog X.w) X.A (call (.ref f) [.ref a, u]) (PySem.W.CmpBack (EP X pins σ Q)) X.xe s := by
    have r2 : Vals [V.ref a, y] [Value.ref a, u] := .cons rfl (.cons ry .nil)
    refine wpAny_mono (run_fn (us := [.ref a, u]) (vs := [.ref a, y]) (dvs := []) (ds := []) F hr hb .nil hx I r2 (by rw [List.append_nil]; exact hsp)) (fun w s' h => ?_) fun _ _ z => z
    obtain ⟨z, H', I', rz, ⟨r, er⟩, q⟩ := h
    subst er
    cases rz
    show EP X pins σ Q (.bool r) s'
    exact ⟨.bl r, H', I', rfl, q⟩
  rcases hy with ⟨b, dy, gs, rfl, hb'⟩ | ⟨b, xs, rfl, hb'⟩
  · cases ry
    obtain ⟨mB, J', _⟩ := ins_get I.hok hb'
    obtain ⟨od', J', _⟩ := J'.look
    exact PySem.W.cmp_K (op := .Eq) (tb := .ref C) hr.units0 hF I.ok.mod.kin J J'.type (by simp [PySem.W.notFirst]) hs hf run
  · cases ry
    obtain ⟨its, rv, ⟨o, ho, hc, _⟩, _⟩ := I.tuple hb'
    exact PySem.W.cmp_K (op := .Eq) (tb := .type "tuple") hr.units0 hF I.ok.mod.kin J (fun A Q E s k q => wpAny_typeOf_ref (k _ _ ho) (by rw [hc]; exact q)) nf hs hf run
end
end Dx

/-! More rules: t[::-1] of a tuple, slices, in, a text walked, insert. -/
namespace Dx
open PySem PySem.Spec PyProof.Rows L2 Evl Ex
/-! ### t[::-1] -/
section
variable {prog : Program} {w : World} {A : Around} {E : Value → Shared → Prop} {s : Shared}
theorem adjust_rev (n : Nat) : Builtin.Slice.sliceAdjust none none (-1) (n : Int) = ((n : Int) - 1, -1) := by
  have h1 : ((-1 : Int) < 0) := by decide
  unfold Builtin.Slice.sliceAdjust
  simp only [h1, if_true]
theorem places_rev (n : Nat) : Builtin.Slice.slicePlaces ((n : Int) - 1) (-1) (-1) = n := by
  unfold Builtin.Slice.slicePlaces
  have h1 : ¬ ((-1 : Int) > 0) := by decide
  have h2 : ((n : Int) - 1 - -1 - 1) / (- -1) = (n : Int) - 1 := by
    rw [show (- -1 : Int) = 1 by decide, Int.ediv_one]
    omega
  simp only [h1, if_false, h2]
  split <;> omega
theorem fm_congr {α β : Type} {f g : α → Option β} : ∀ {l : List α}, (∀ x ∈ l, f x = g x) → l.filterMap f = l.filterMap g
  | [], _ => rfl
  | a :: l, h => by
    rw [List.filterMap_cons, List.filterMap_cons, h a List.mem_cons_self, fm_congr fun x hx => h x (List.mem_cons_of_mem _ hx)]
theorem pick_rev (xs : Array Value) : ((List.range xs.size).filterMap fun (m : Nat) => xs[(((xs.size : Nat) : Int) - 1 + (m : Int) * (-1)).toNat]?).toArray = xs.toList.reverse.toArray := by
  congr 1
  rw [← PySem.W.krv_all xs, ← List.filterMap_reverse, ← PySem.W.krv_range, List.filterMap_map]
  refine fm_congr fun m hm => ?_
  have := List.mem_range.mp hm
  show xs[(((xs.size : Nat) : Int) - 1 + (m : Int) * (-1)).toNat]? = xs[xs.size - 1 - m]?
  congr 1
  omega
theorem getItem_tuple_rev {t sl : Addr} {items : Array Value} {vs : Value} {Q : Value → Shared → Prop} (ht : IsTup s.heap t items) (hs : s.heap.IsSliceOf sl .none .none vs) (ps : IsPart vs (some (-1)))
    (h : Q (.ref s.heap.objs.size) { s with heap := s.heap.push { cls := .type "tuple", data := .seq items.toList.reverse.toArray } })
    (hsz : items.size ≤ sizeLine) : wpAny (model prog w) A (getItem (.ref t) (.ref sl)) Q E s := by
  have htake : sizeOk (.seq items.toList.reverse.toArray) := by
    show items.toList.reverse.toArray.size ≤ sizeLine
    rw [List.size_toArray, List.length_reverse, Array.length_toList]
    exact hsz
  obtain ⟨os, hos, hcs, hds⟩ := id hs
  have hTs : s.TypeIs (.ref sl) "slice" := ⟨os, hos, hcs⟩
  unfold getItem
  try with_reducible refine wpAny_holding ?_
  first | refine wpAny_bind (wpAny_pure ?_) | skip
  refine wpAny_bind (wpAny_sequenceKey ht.typeIs (by decide) ?_)
  refine wpAny_bind (wpAny_callSpecial?_slot (name := Str.ofString "__getitem__") ht.typeIs PyProof.Rows.slot_tuple_getitem
    (wpAny_call_entry PyProof.Rows.slot_tuple_getitem ht.typeIs entry_tuple_getitem ?_ (args_tuple_getitem _ _)))
  show wpAny _ _ (Builtin.Tuple.tupleItemsOf (.ref t) >>= _) _ _ s
  refine wpAny_bind (tupleItemsOf_ ht ?_)
  refine wpAny_bind (wpAny_typeOf hTs ?_)
  rw [if_pos (by decide)]
  have app : ∀ {R : Int × Int × Nat → Shared → Prop} {A' : Around} {E' : Value → Shared → Prop}, R (((items.size : Nat) : Int) - 1, -1, items.size) s → wpAny (model prog w) A' (Builtin.Slice.sliceApplied (.ref sl) (pure ((items.size : Nat) : Int))) R E' s := by
    intro R A' E' hR
    unfold Builtin.Slice.sliceApplied Builtin.Slice.sliceFields
    refine wpAny_bind (wpAny_bind (wpAny_field hos hds (x := .none) rfl (wpAny_bind (wpAny_field hos hds (x := .none) rfl (wpAny_bind (wpAny_field hos hds (x := vs) rfl (wpAny_pure ?_)))))))
    refine wpAny_bind (HT.slicePart_ ps ?_)
    show wpAny _ _ (if ((-1 : Int) == 0) = true then _ else _) _ _ s
    rw [if_neg (by decide)]
    refine wpAny_bind (slicePart_none (wpAny_bind (slicePart_none (wpAny_bind (wpAny_pure ?_)))))
    show wpAny _ _ (match Builtin.Slice.sliceAdjust none none (-1) ((items.size : Nat) : Int) with | (lo, hi) => pure (lo, (-1 : Int), Builtin.Slice.slicePlaces lo hi (-1))) _ _ s
    rw [adjust_rev]
    show wpAny _ _ (pure (((items.size : Nat) : Int) - 1, (-1 : Int), Builtin.Slice.slicePlaces (((items.size : Nat) : Int) - 1) (-1) (-1))) _ _ s
    rw [places_rev]
    exact wpAny_pure hR
  refine wpAny_bind (app ?_)
  have hno : ¬ ((((items.size : Nat) : Int) - 1 == 0 && (-1 : Int) == 1 && items.size == items.size) = true) := by
    intro q
    rw [Bool.and_eq_true, Bool.and_eq_true] at q
    exact absurd q.1.2 (by decide)
  show wpAny _ _ (if (((items.size : Nat) : Int) - 1 == 0 && (-1 : Int) == 1 && items.size == items.size) = true then _ else _) _ _ s
  rw [if_neg hno, pick_rev]
  first
    | exact wpAny_bind (m := Builtin.Tuple.tupleExact _) (wpAny_newObj_type (wpAny_pure ⟨_, rfl, wpAny_pure h⟩) htake)
    | exact wpAny_bind (m := Builtin.Tuple.tupleExact _) (wpAny_newObj_type (wpAny_bind (wpAny_pure (wpAny_pure ⟨_, rfl, wpAny_pure h⟩))) htake)
    | exact wpAny_bind (wpAny_bind (m := Builtin.Tuple.tupleExact _) (wpAny_newObj_type (wpAny_pure (wpAny_pure ⟨_, rfl, wpAny_pure h⟩)) htake))
    | exact wpAny_bind (wpAny_bind (m := Builtin.Tuple.tupleExact _) (wpAny_newObj_type (wpAny_pure ⟨_, rfl, wpAny_pure h⟩) htake))
end
section
variable {X : Cx}
def tRevT (K : PySem.W.Frag) (te : TE) : TE := fun σ H Q => te σ H fun x H1 => ∃ a xs, x = .ref a ∧ SqT K H1 a xs ∧ ∀ p, H1 p = none → Q (.ref p) (upd H1 p (.tup xs.reverse))
theorem pe_revT {e : Expr} {te : TE} {k : Nat} {p1 p2 p3 pos : Pos} (he : PE X e te) : PE X (.Subscript e (.Slice none none (some (.UnaryOp .USub (.Constant (.int 1) k p1) p2)) p3) pos) (tRevT X.K te) := by
  refine ⟨fun pins s σ H Q I h => ?_⟩
  refine Subscript_ (thn (he.run pins s σ H _ I h) fun v s1 ⟨x, H1, I1, r1, q1⟩ => ?_)
  obtain ⟨a, xs, ex, hx, q⟩ := q1
  subst ex
  cases r1
  have hst : PO X (some (.UnaryOp .USub (.Constant (.int 1) k p1) p2)) (tPart (tUn (rU fun i => .int (-i)) (tC (.int 1)))) := po_some (pe_un un_neg pe_int)
  refine wpAny_Slice (thn (po_none.run pins s1 σ H1 (fun o H2 => o = none ∧ H2 = H1) I1 ⟨rfl, rfl⟩) fun vl s2 ⟨l, H2, I2, pl, el, e2⟩ => ?_)
  subst el e2
  refine thn (po_none.run pins s2 σ H2 (fun o H3 => o = none ∧ H3 = H2) I2 ⟨rfl, rfl⟩) fun vu s3 ⟨u, H3, I3, pu, eu, e3⟩ => ?_
  subst eu e3
  refine thn (hst.run pins s3 σ H3 (fun o H4 => o = some (-1) ∧ H4 = H3) I3 ⟨1, rfl, -1, rfl, rfl, rfl⟩) fun vs s4 ⟨o, H4, I4, ps, eo, e4⟩ => ?_
  subst eo e4
  have I5 : Inv X pins σ H4 { s4 with heap := s4.heap.push { cls := .type "slice", data := .fields #[vl, vu, vs] } } := I4.kept (t' := s4.toks) fun b ob q => Heap.get?_push_of_some _ q
  obtain ⟨its, r, ht, hz⟩ := I5.tuple hx
  have hlen := r.length
  cases pl
  cases pu
  show wpAny (model X.prog X.w) X.A (subscriptTail e (.Slice none none (some (.UnaryOp .USub (.Constant (.int 1) k p1) p2)) p3) (.ref a) (.ref s4.heap.objs.size)) (EP X pins σ Q) X.xe { s4 with heap := s4.heap.push { cls := .type "slice", data := .fields #[.none, .none, vs] } }
  refine tail_any (ops := [.ref a, .ref s4.heap.objs.size]) ht.typeIs (PyProof.Rows.slot_tuple_getitem.lookup) ?_ (by with_unfolding_all rfl)
  refine getItem_tuple_rev ht (Heap.IsSliceOf.new _ .none .none vs) ps ?_ (by rw [List.size_toArray]; omega)
  refine ⟨.ref _, _, I5.laid (t' := s4.toks) (o := .tup xs.reverse) (fun b ob q => Heap.get?_push_of_some _ q) (Nat.le_refl _) ?_, rfl, q _ (I5.hok.fresh (Nat.le_refl _))⟩
  exact ⟨by rw [List.length_reverse]; exact hz, _, r.reverse, _, Heap.get?_push_size _ rfl, rfl, 0, rfl⟩
theorem pe_revTK (K : PySem.W.Frag) {e : Expr} {te : TE} {k : Nat} {p1 p2 p3 pos : Pos} (he : PE X e te) (hK : X.K = K := by rfl) : PE X (.Subscript e (.Slice none none (some (.UnaryOp .USub (.Constant (.int 1) k p1) p2)) p3) pos) (tRevT K te) := by subst hK; exact pe_revT he
end

/-! ### slices x[i:j] of tuples and texts -/
section
variable {X : Cx}
def rSlX (K : PySem.W.Frag) : V → Option Int → Option Int → Hp → VK → Prop := fun x lo hi H Q => rSlA K x lo hi H Q ∨ rSlS x lo hi H Q
theorem sl_anyK (K : PySem.W.Frag) (hK : X.K = K := by rfl) : SlR X (rSlX K) := by subst hK; exact sl_tupA.or sl_str
end
def EO (F : Fm) (to : TO) (σ : L2.St) (B : Hp) (o : Option Int) : Prop := ∀ B1, Ex B B1 → ∀ H, Ok F B1 H → ∀ Q : Option Int → Hp → Prop, (∀ B' H', Step F.M B1 H B' H' → Ok F B' H' → Q o H') → to σ H Q
def cutL {α : Type} (xs : List α) (lo hi : Option Int) : List α := (xs.drop (HT.sIx xs.length 0 lo)).take (HT.sIx xs.length xs.length hi - HT.sIx xs.length 0 lo)
section
variable {F : Fm} {K : PySem.W.Frag} {σ : L2.St} {B : Hp} {te : TE} {tl th : TO} {lo hi : Option Int} {ds : List PyData} {x y z d : PyData}
theorem eo_none : EO F tNoPart σ B none := fun B1 e0 H k Q q => q B1 H (Step.refl k.e) k
theorem eo_some {i : Int} (h : ED F K te σ B (.int i)) : EO F (tPart te) σ B (some i) := fun B1 e0 H k Q q => h B1 e0 H k _ fun v B2 H2 s2 k2 g => ⟨i, dd_int g, q B2 H2 s2 k2⟩
theorem cutL_len {α : Type} (xs : List α) (lo hi : Option Int) : (cutL xs lo hi).length ≤ xs.length := by
  unfold cutL
  rw [List.length_take, List.length_drop]
  omega
theorem ed_slT (h : ED F K te σ B (.tuple ds)) (hl : EO F tl σ B lo) (hh : EO F th σ B hi) : ED F K (tSl (rSlX K) te tl th) σ B (.tuple (cutL ds lo hi)) := fun B1 e0 H k Q q =>
  h B1 e0 H k _ fun v B2 H2 s2 k2 g => hl B2 (e0.trans s2.bb) H2 k2 _ fun B3 H3 s3 k3 => hh B3 ((e0.trans s2.bb).trans s3.bb) H3 k3 _ fun B4 H4 s4 k4 => by
    have gd := Dd.up g (s3.bb.trans s4.bb)
    obtain ⟨a, xs, rfl, h1, l1, g1⟩ := dd_tup gd
    have en := g1.len
    have ec : cutV xs lo hi = cutL xs lo hi := rfl
    refine .inl ⟨a, xs, rfl, ex_t k4.e h1, fun hw => ?_, fun hw p hp => ?_⟩
    · have ed : cutL ds lo hi = ds := by
        unfold cutL
        rw [en] at hw
        rw [hw.1, hw.2, List.drop_zero, Nat.sub_zero, List.take_length]
      refine q (.ref a) B4 H4 ((s2.trans s3).trans s4) k4 ?_
      rw [ed]
      exact gd
    · refine q (.ref p) _ _ (((s2.trans s3).trans s4).trans (Step.alloc k4.e hp)) (k4.alloc hp) (.tup (ta_of upd_same) ?_ ?_)
      · exact Nat.le_trans (cutV_length xs lo hi) l1
      · have g2 : DdAll K B4 (cutL xs lo hi) (cutL ds lo hi) := by
          unfold cutL
          rw [en]
          exact (g1.drop _).take _
        exact g2.up (Ex.new (fresh_back k4.e hp))
theorem ed_slS {s : Str} (h : ED F K te σ B (.str s)) (hl : EO F tl σ B lo) (hh : EO F th σ B hi) (hz : (cutS s lo hi).length ≤ 16777216) : ED F K (tSl (rSlX K) te tl th) σ B (.str (cutS s lo hi)) := fun B1 e0 H k Q q =>
  h B1 e0 H k _ fun v B2 H2 s2 k2 g => hl B2 (e0.trans s2.bb) H2 k2 _ fun B3 H3 s3 k3 => hh B3 ((e0.trans s2.bb).trans s3.bb) H3 k3 _ fun B4 H4 s4 k4 => by
    obtain ⟨rfl, hl⟩ := dd_str g
    exact .inr ⟨s, rfl, hl, q _ B4 H4 ((s2.trans s3).trans s4) k4 (.str _ (by rw [sizeLine_eq]; exact hz))⟩
theorem ed_rev (h : ED F K te σ B (.tuple ds)) : ED F K (tRevT K te) σ B (.tuple ds.reverse) := fun B1 e0 H k Q q =>
  h B1 e0 H k _ fun v B2 H2 s2 k2 g => by
    obtain ⟨a, xs, rfl, h1, l1, g1⟩ := dd_tup g
    exact ⟨a, xs, rfl, ex_t k2.e h1, fun p hp => q _ _ _ (s2.trans (Step.alloc k2.e hp)) (k2.alloc hp) (.tup (ta_of upd_same) (by rw [List.length_reverse]; exact l1) ((g1.rev).up (Ex.new (fresh_back k2.e hp))))⟩

/-! ### x in xs, flat -/
def flatD : PyData → Bool
  | .none => true
  | .bool _ => true
  | .int _ => true
  | .str _ => true
  | _ => false
theorem flat_dv {H : Hp} {v : V} (h : Dd K H v d) (f : flatD d = true) : flatV v = true := by
  cases h <;> first | rfl | cases f
theorem eqV_dv {H : Hp} {v u : V} {e : PyData} (h : Dd K H v d) (g : Dd K H u e) (f : flatD d = true) (f' : flatD e = true) : eqV v u = PyData.eqv d e := by
  cases h <;> cases g <;> first | rfl | (cases f) | (cases f') | (simp [eqV, PyData.eqv])
theorem flats_dv {H : Hp} : ∀ {vs : List V} {ds : List PyData}, DdAll K H vs ds → ds.all flatD = true → vs.all flatV = true
  | _, _, .nil, _ => rfl
  | _, _, .cons a t, f => by
    rw [List.all_cons, Bool.and_eq_true] at f
    rw [List.all_cons, flat_dv a f.1, flats_dv t f.2]
    rfl
theorem inV_dv {H : Hp} {v : V} (h : Dd K H v d) (f : flatD d = true) : ∀ {vs : List V} {ds : List PyData}, DdAll K H vs ds → ds.all flatD = true → inV v vs = ds.any fun e => PyData.eqv e d
  | _, _, .nil, _ => rfl
  | _, _, .cons a t, g => by
    rw [List.all_cons, Bool.and_eq_true] at g
    have ih := inV_dv h f t g.2
    unfold inV at ih ⊢
    rw [List.any_cons, List.any_cons, ih, eqV_dv a h g.1 f]
def inD (d : PyData) (ds : List PyData) : Bool := ds.any fun e => PyData.eqv e d
theorem rd_in {neg : Bool} (hy : y = .list ds ∨ y = .tuple ds) (f : flatD x = true) (g : ds.all flatD = true) : RD2 F K (rIn K neg) B x y (.bool (if neg then !inD x ds else inD x ds)) := rd_of fun H u v hu hv => by
  rcases hy with rfl | rfl
  · obtain ⟨a, xs, rfl, h1, l1, g1⟩ := dd_lst hv
    refine ⟨.bl (if neg then !inD x ds else inD x ds), fun _ => .bl _, fun Q q => ⟨a, xs, rfl, .inl (sq_of h1), flat_dv hu f, flats_dv g1 g, ?_⟩⟩
    rw [inV_dv hu f g1 g]
    exact q
  · obtain ⟨a, xs, rfl, h1, l1, g1⟩ := dd_tup hv
    refine ⟨.bl (if neg then !inD x ds else inD x ds), fun _ => .bl _, fun Q q => ⟨a, xs, rfl, .inr h1, flat_dv hu f, flats_dv g1 g, ?_⟩⟩
    rw [inV_dv hu f g1 g]
    exact q
theorem rd_isin (hy : y = .list ds ∨ y = .tuple ds) (f : flatD x = true) (g : ds.all flatD = true) : RD2 F K (rIn K false) B x y (.bool (inD x ds)) := rd_in (neg := false) hy f g
theorem rd_notin (hy : y = .list ds ∨ y = .tuple ds) (f : flatD x = true) (g : ds.all flatD = true) : RD2 F K (rIn K true) B x y (.bool (!inD x ds)) := rd_in (neg := true) hy f g
/-! ### all, is, texts -/
theorem bls_dv {H : Hp} : ∀ {vs : List V} {bs : List Bool}, DdAll K H vs (bs.map .bool) → vs = bs.map V.bl
  | _, [], h => by cases h; rfl
  | _, b :: bs, h => by
    cases h with
    | cons a t =>
      rw [dd_bl a, bls_dv t]
      rfl
theorem rc_all {bs : List Bool} : RDc F K (rAll K) B [.list (bs.map .bool)] (.bool (bs.all id)) := rc_of fun H u hu => by
  obtain ⟨a, xs, rfl, h1, l1, g1⟩ := dd_lst hu
  exact ⟨.bl (bs.all id), fun _ => .bl _, fun Q q => ⟨a, bs, rfl, by rw [← bls_dv g1]; exact sq_of h1, q⟩⟩
theorem rd_isB {a b : Bool} : RD2 F K rIsB B (.bool a) (.bool b) (.bool (decide (a = b))) := rd_of fun H u v hu hv => ⟨.bl _, fun _ => .bl _, fun Q q => ⟨a, b, dd_bl hu, dd_bl hv, q⟩⟩
theorem rd_ltS {a b : Str} : RD2 F K (fun x y H Q => ∃ i j, x = .str i ∧ y = .str j ∧ Q (.bl (decide (i.cps.toList < j.cps.toList))) H) B (.str a) (.str b) (.bool (decide (a.cps.toList < b.cps.toList))) := rd_of fun H u v hu hv => ⟨.bl _, fun _ => .bl _, fun Q q => ⟨a, b, (dd_str hu).1, (dd_str hv).1, q⟩⟩
theorem rd_gtS {a b : Str} : RD2 F K (fun x y H Q => ∃ i j, x = .str i ∧ y = .str j ∧ Q (.bl (decide (j.cps.toList < i.cps.toList))) H) B (.str a) (.str b) (.bool (decide (b.cps.toList < a.cps.toList))) := rd_of fun H u v hu hv => ⟨.bl _, fun _ => .bl _, fun Q q => ⟨a, b, (dd_str hu).1, (dd_str hv).1, q⟩⟩
theorem rd_leS {a b : Str} : RD2 F K (fun x y H Q => ∃ i j, x = .str i ∧ y = .str j ∧ Q (.bl (!decide (j.cps.toList < i.cps.toList))) H) B (.str a) (.str b) (.bool (!decide (b.cps.toList < a.cps.toList))) := rd_of fun H u v hu hv => ⟨.bl _, fun _ => .bl _, fun Q q => ⟨a, b, (dd_str hu).1, (dd_str hv).1, q⟩⟩
theorem rd_rep {n : Int} (h0 : ds ≠ []) (h1 : 2 ≤ n) (h2 : n ≤ 1000) (h3 : ds.length ≤ 1000) : RD2 F K (rRepT K) B (.tuple ds) (.int n) (.tuple (List.replicate n.toNat ds).flatten) := fun B1 e0 H u v k hu hv Q q => by
  obtain ⟨a, xs, rfl, g1, l1, g2⟩ := dd_tup hu
  have en := g2.len
  refine ⟨a, n, xs, rfl, dd_int hv, ex_t k.e g1, fun z => h0 ?_, h1, h2, by rw [en]; exact h3, fun p hp => q _ _ _ (Step.alloc k.e hp) (k.alloc hp) (.tup (ta_of upd_same) ?_ ((g2.rep _).up (Ex.new (fresh_back k.e hp))))⟩
  · rw [z] at en
    exact List.eq_nil_of_length_eq_zero en.symm
  · rw [List.length_flatten, List.map_replicate, List.sum_replicate_nat, en, sizeLine_eq]
    have : n.toNat ≤ 1000 := by omega
    exact Nat.le_trans (Nat.mul_le_mul this h3) (by decide)
/-- [te for c in s if tt], s a text -/
def sgn (c : Nat) : Str := ⟨#[c]⟩
theorem ed_lcS {tt : TT} {j : Nat} {vsN : List Nat} {s : Str} (p : Nat → Bool) (g : Nat → PyData) (h : ED F K te σ B (.str s)) (hw : ∀ x, wipe ((wipe σ vsN).set j (some x)) vsN = wipe σ vsN) {tel : TE}
    (ht : ∀ c B1, c ∈ s.cps.toList → Ex B B1 → ETt F tt ((wipe σ vsN).set j (some (.str (sgn c)))) B1 (p c))
    (he : ∀ c B1, c ∈ s.cps.toList → p c = true → Ex B B1 → ED F K tel ((wipe σ vsN).set j (some (.str (sgn c)))) B1 (g c)) :
    ED F K (tLc (iStr te) (gName j) tt tel vsN) σ B (.list ((s.cps.toList.filter p).map g)) := fun B0 e0 H0 k0 Q q => by
  refine h B0 e0 H0 k0 _ fun v B1 H1 s1 k1 pv => ?_
  obtain ⟨rfl, hl⟩ := dd_str pv
  have hsz : s.cps.toList.length = s.length := by simp [Str.length]
  have fl : ∀ i, ((s.cps.toList.take i).filter p).length ≤ i := fun i => Nat.le_trans (List.length_filter_le _ _) (by rw [List.length_take]; exact Nat.min_le_left _ _)
  rw [sizeLine_eq] at hl
  refine ⟨s, rfl, fun Dl hD => ⟨fun i m H' => m = s.cps.size - i ∧ i ≤ s.cps.size ∧ Cq F K B1 H1 Dl (((s.cps.toList.take i).filter p).map g) H', ⟨s.cps.size, by simp, Nat.zero_le _, cq_start k1 hD⟩, ?_⟩⟩
  rintro i m H' ⟨rfl, hi, c⟩
  by_cases hlt : i < s.cps.size
  · refine .inr ⟨hlt, fun H2 => Cq F K B1 H1 Dl (((s.cps.toList.take (i + 1)).filter p).map g) H2, fun H2 c2 => ⟨s.cps.size - (i + 1), by omega, rfl, hlt, c2⟩, ?_⟩
    rintro x H2 ⟨rfl, ch, hc, rfl⟩
    have hc' : s.cps.toList[i]? = some ch := by
      rw [Array.getElem?_toList]
      exact hc
    refine ⟨hw _, ?_⟩
    rw [take_snoc hc', filter_snoc]
    exact cq_turn k1 hD (by rw [List.length_map]; exact Nat.lt_of_le_of_lt (fl i) (by have : s.cps.size = s.length := rfl; omega)) c (fun B' e => ht ch B' (List.mem_of_getElem? hc') ((e0.trans s1.bb).trans e)) (fun hp B' e => he ch B' (List.mem_of_getElem? hc') hp ((e0.trans s1.bb).trans e))
  · have e : i = s.cps.size := by omega
    subst e
    refine .inl ⟨Nat.le_refl _, ?_⟩
    rw [show s.cps.size = s.cps.toList.length from by simp, List.take_length] at c
    obtain ⟨B2, s2, k2, g2⟩ := cq_done k1 hD (by rw [List.length_map]; exact Nat.le_trans (List.length_filter_le _ _) (by omega)) c
    exact q _ B2 _ (s1.trans s2) k2 g2
end
end Dx

/-! [.. for x, y in pairs if ..]: a comprehension whose target is a pair of names. -/
namespace Dx
open PySem PySem.Spec PyProof.Rows L2 Evl
section
variable {F : Fm} {K : PySem.W.Frag} {σ : L2.St} {B : Hp} {tl te : TE} {tt : TT} {i j : Nat} {ds : List PyData} {vsN : List Nat}
abbrev g2 (K : PySem.W.Frag) (i j : Nat) : TG := gTup K 2 (gCons (gName i) (gCons (gName j) gNil))
theorem ed_lcP (p : PyData → Bool) (g : PyData → PyData) (h : EV F tl σ B (SqV K (DDs K ds))) (hz : ds.length ≤ 16777216) (hp : ∀ d ∈ ds, ∃ x y, d = .tuple [x, y]) (hw : ∀ u v, wipe (((wipe σ vsN).set i (some u)).set j (some v)) vsN = wipe σ vsN)
    (ht : ∀ x y u v B1, PyData.tuple [x, y] ∈ ds → Ex B B1 → Dd K B1 u x → Dd K B1 v y → ETt F tt (((wipe σ vsN).set i (some u)).set j (some v)) B1 (p (.tuple [x, y])))
    (he : ∀ x y u v B1, PyData.tuple [x, y] ∈ ds → p (.tuple [x, y]) = true → Ex B B1 → Dd K B1 u x → Dd K B1 v y → ED F K te (((wipe σ vsN).set i (some u)).set j (some v)) B1 (g (.tuple [x, y]))) :
    ED F K (tLc (iSeq K tl) (g2 K i j) tt te vsN) σ B (.list ((ds.filter p).map g)) := fun B0 e0 H0 k0 Q q => by
  refine h B0 e0 H0 k0 _ fun v B1 H1 s1 k1 pv => ?_
  obtain ⟨l, vs, rfl, hl, ps⟩ := pv
  have ps' : DdAll K B1 vs ds := ps
  have en := ps'.len
  have fl : ∀ i, ((ds.take i).filter p).length ≤ i := fun i => Nat.le_trans (List.length_filter_le _ _) (by rw [List.length_take]; exact Nat.min_le_left _ _)
  have turn : ∀ (Dl : Addr), H1 Dl = none → ∀ n x H', vs[n]? = some x → Cq F K B1 H1 Dl (((ds.take n).filter p).map g) H' → g2 K i j x (wipe σ vsN) H' fun σ2 H2 => wipe σ2 vsN = wipe σ vsN ∧ tt σ2 H2 fun b H3 =>
      if b = true then te σ2 H3 fun y H4 => ∃ acc, H4 Dl = some (.lst acc) ∧ acc.length < sizeLine ∧ Cq F K B1 H1 Dl (((ds.take (n + 1)).filter p).map g) (upd H4 Dl (.lst (acc ++ [y]))) else Cq F K B1 H1 Dl (((ds.take (n + 1)).filter p).map g) H3 := by
    intro Dl hD n x H' hx c
    obtain ⟨d, hd, hdv⟩ := ps'.getv hx
    have hm : d ∈ ds := List.mem_of_getElem? hd
    have hi : n < ds.length := (List.getElem?_eq_some_iff.mp hd).1
    obtain ⟨a, b, rfl⟩ := hp d hm
    obtain ⟨t, us, rfl, h1, _, hus⟩ := dd_tup hdv
    obtain ⟨u, w, rfl, hu, hw'⟩ := arg2 hus
    obtain ⟨B', acc, s, k, hb, hd', ha⟩ := id c
    refine ⟨t, _, rfl, ex_t (s.bb.trans k.e) h1, rfl, u, _, rfl, w, _, rfl, rfl, hw u w, ?_⟩
    rw [take_snoc hd, filter_snoc]
    exact cq_turn k1 hD (by rw [List.length_map]; exact Nat.lt_of_le_of_lt (fl n) (by omega)) c (fun B' e => ht a b u w B' hm ((e0.trans s1.bb).trans e) (hu.up e) (hw'.up e)) (fun hpt B' e => he a b u w B' hm hpt ((e0.trans s1.bb).trans e) (hu.up e) (hw'.up e))
  have fin : ∀ (Dl : Addr), H1 Dl = none → ∀ H', Cq F K B1 H1 Dl (((ds.take vs.length).filter p).map g) H' → Q (.ref Dl) H' := by
    intro Dl hD H' c
    rw [en, List.take_length] at c
    obtain ⟨B2, s2, k2, g2⟩ := cq_done k1 hD (by rw [List.length_map]; exact Nat.le_trans (List.length_filter_le _ _) hz) c
    exact q _ B2 H' (s1.trans s2) k2 g2
  refine ⟨l, rfl, ?_⟩
  rcases hl with hl | hl
  · refine .inl ⟨⟨vs, ex_l k1.e hl⟩, fun Dl hD => lc_list (K := K) (xs := vs) (fun i => Cq F K B1 H1 Dl (((ds.take i).filter p).map g)) (cq_start k1 hD) (fun i H' _ c => ?_) (fun i x H' hx c => turn Dl hD i x H' hx c) (fun H' c => fin Dl hD H' c)⟩
    obtain ⟨B', acc, s, k, _⟩ := c
    exact ex_l k.e (ex_l s.bb hl)
  · refine .inr ⟨⟨vs, ex_t k1.e hl⟩, fun Dl hD => lc_tup (K := K) (xs := vs) (fun i => Cq F K B1 H1 Dl (((ds.take i).filter p).map g)) (cq_start k1 hD) (fun i H' _ c => ?_) (fun i x H' hx c => turn Dl hD i x H' hx c) (fun H' c => fin Dl hD H' c)⟩
    obtain ⟨B', acc, s, k, _⟩ := c
    exact ex_t k.e (ex_t s.bb hl)
end
end Dx

/-! list.extend of a tuple, list.count of texts, list(reversed(a tuple)). -/
namespace Qx
open PySem PySem.Spec PyProof.Rows L2
open AutoSeq1 (wpAny_loadPart')

/-! ### x.extend(a tuple) -/
theorem extend_tuple (l : Addr) (items : Array Value) (n : Nat) (b : Addr) (dd : Option Addr) (sl : Array (Option Value)) (items2 : Array Value) (n2 : Nat) (hs0 : ¬(!items.isEmpty && Builtin.List.listTooLong (items.size + items2.size)) = true) (hs1 : items.size ≤ sizeLine) (hs2 : items.size + items2.size ≤ sizeLine + 1) :
    Meets (Builtin.«list.extend» ⟨[.ref l, .ref b], []⟩) (fun _ R s => s.heap.get? l = some { cls := .type "list", dict := none, data := .seq items n, slots := #[] } ∧ s.heap.get? b = some { cls := .type "tuple", dict := dd, data := .seq items2 n2, slots := sl } ∧ R (.ok (.ret Value.none)) { s with heap := s.heap.update l (Obj.mapSeq fun x => x ++ items2), toks := s.toks }) :=
  .of_wp fun prog w A R s h => by
    obtain ⟨hp, g, d, tk, os⟩ := s; obtain ⟨hl, hb, h⟩ := h; have f1 := AutoSeq1.idx_int; have f2 := AutoSeq1.sub_tuple_tuple; have f3 := AutoSeq1.sub_list_list; have f4 := AutoSeq1.sub_tuple_list; have f5 := AutoSeq1.sub_list_tuple;
    have hz' : (items ++ items2).size ≤ sizeLine + 1 := by rw [Array.size_append]; exact hs2
    wp_walk using (wpAny_updateSeq hl rfl (hz := hs1) (_hz' := hz')), wpAny_loadPart' hl, wpAny_loadPart' hb; exact ⟨_, rfl, h⟩
section
variable {X : Cx}
def rExtendT (K : PySem.W.Frag) : V → List V → Hp → VK → Prop := fun x vs H Q => ∃ l b xs zs, x = .ref l ∧ vs = [.ref b] ∧ H l = some (.lst xs) ∧ SqT K H b zs ∧ xs.length + zs.length ≤ sizeLine ∧ Q .non (upd H l (.lst (xs ++ zs)))
theorem mt_extendT (K : PySem.W.Frag) (hK : X.K = K := by rfl) : MtM X "list.extend" (rExtendT K) := by
  subst hK
  intro pins s σ H x vs v us Q I rx rv h
  obtain ⟨l, b, xs, zs, rfl, rfl, hH, hB, hz, q⟩ := h
  cases rx
  obtain ⟨u, rfl, ru⟩ := rv.one
  cases ru
  obtain ⟨z, its, n, r, hl, e⟩ := I.lstM hH
  obtain ⟨its2, r2, ⟨⟨cls, dd, data, sl⟩, e2, hc, n2, hd⟩, hl2⟩ := I.tuple hB
  simp only at hc hd
  subst hc hd
  have hl3 := r2.length
  have hsz : its.toArray.size + its2.toArray.size ≤ sizeLine := by rw [List.size_toArray, List.size_toArray]; omega
  have hlong : ¬ (!its.toArray.isEmpty && Builtin.List.listTooLong (its.toArray.size + its2.toArray.size)) = true := by
    rw [notLongL hsz, Bool.and_false]
    exact Bool.false_ne_true
  refine call_meets F.slot_list_extend ⟨_, e, rfl⟩ F.entry_list_extend (F.args_list_extend_2 _ _)
    (extend_tuple l its.toArray n b dd sl its2.toArray n2 hlong (by rw [List.size_toArray]; omega) (by omega)) ⟨e, e2, ?_⟩
  refine ⟨.non, _, I.lset (its' := its ++ its2) hH e (by simp) (r.append r2) ?_, rfl, q⟩
  rw [List.length_append]
  omega

/-! ### x.count(text), x a list of texts -/
def eqs (k : Str) (v : Value) : Bool := match v with
  | .str n _ => n == k
  | _ => false
theorem strs_of {xs : List Str} : ∀ {us : List Value}, Vals (xs.map V.str) us → (∀ y ∈ us, ∃ x t, y = .str x t) ∧ ∀ k, us.countP (eqs k) = xs.count k := by
  induction xs with
  | nil =>
    intro us r
    cases r
    exact ⟨fun y hy => (nomatch hy), fun k => rfl⟩
  | cons x xs ih =>
    intro us r
    cases r with
    | cons a t =>
      obtain ⟨h1, h2⟩ := ih t
      obtain ⟨tk, rfl⟩ := a
      refine ⟨fun y hy => ?_, fun k => ?_⟩
      · rcases List.mem_cons.mp hy with rfl | hy
        · exact ⟨_, _, rfl⟩
        · exact h1 y hy
      · rw [List.countP_cons, List.count_cons, h2 k]
        rfl
def rCntS (K : PySem.W.Frag) : V → List V → Hp → VK → Prop := fun x xs H Q => ∃ (p : Addr) (ns : List Str) (k : Str), x = .ref p ∧ xs = [.str k] ∧ SqL K H p (ns.map V.str) ∧ Q (.int (ns.count k : Nat)) H
theorem mt_scount (K : PySem.W.Frag) (hK : X.K = K := by rfl) : MtR X "list.count" (rCntS K) := by
  subst hK
  intro pins s σ H x xs v us Q I rx rxs h
  obtain ⟨p, ns, k, rfl, rfl, hs, q⟩ := h
  cases rx
  obtain ⟨u, rfl, ru⟩ := rxs.one
  obtain ⟨t, rfl⟩ := ru
  obtain ⟨its, rv, ⟨⟨cls, dd, data, sl⟩, n, ho, hc, hdn, hd⟩, hlen⟩ := I.list hs
  simp only at hc hd
  subst hc hd
  obtain ⟨hi, ec⟩ := strs_of rv
  refine call_meets PySem.F.slot_list_count ⟨_, ho, rfl⟩ PySem.F.entry_list_count (PySem.F.args_list_count_2 _ _)
    (SeqAt.list_countAt p its.toArray n dd sl (.str k t) (eqs k)) ⟨ho, fun y hy => ?_, ?_⟩
  · obtain ⟨x, t', rfl⟩ := hi y (by simpa using hy)
    exact SeqAt.EqAt.str_str x t' k t
  · refine ⟨.int (ns.count k : Nat), H, I.tok _, ⟨s.toks, ?_⟩, q⟩
    show Value.int ((its.toArray.toList.countP (eqs k) : Nat) : Int) s.toks = Value.int ((ns.count k : Nat) : Int) s.toks
    rw [ec k]
end

/-! ### list(reversed(a tuple)) -/
theorem nolen_rt : typeLookup (.type "reversed") "__len__" = pure none := by rw [typeLookup_type, builtinLookup_eq_fast]; kernel_rfl
theorem hint_rt : typeLookup (.type "reversed") "__length_hint__" = pure (some (.builtin "reversed.__length_hint__")) := by rw [typeLookup_type, builtinLookup_eq_fast]; kernel_rfl
theorem walks_rt {prog : Program} {w : World} {A : Around} (hh : A.handled = none) (I l : Addr) (hne : l ≠ I) (items : Array Value) (hz : items.size ≤ sizeLine) :
    Walks prog w A I [I, l] [I] items.size (fun i v => items[items.size - 1 - i]? = some v) (fun i h => i ≤ items.size ∧ RT.IsRt h I l ((items.size : Int) - 1 - (i : Int)) ∧ IsTup h l items) where
  sub := fun b hb => by simp at hb; simp [hb]
  frame := fun _ _ _ x hk => ⟨x.1, x.2.1.at fun o e => hk I (by simp) o e, let ⟨o, ho, r⟩ := x.2.2; ⟨o, hk l (by simp) o ho, r⟩⟩
  item := fun i s Q E hi x hQ => by
    have e : (items.size : Int) - 1 - (i : Int) = ((items.size - 1 - i : Nat) : Int) := by omega
    have hit := x.2.1
    rw [e] at hit
    have hx : items[items.size - 1 - i]? = some (items[items.size - 1 - i]'(by omega)) := Array.getElem?_eq_getElem (by omega)
    refine RT.next_rt_item hit x.2.2 hx hz fun h' hit' hs' => ?_
    have e2 : ((items.size - 1 - i : Nat) : Int) - 1 = (items.size : Int) - 1 - ((i + 1 : Nat) : Int) := by omega
    rw [e2] at hit'
    exact hQ _ h' (s.toks + 1) hx ⟨hi, hit', let ⟨o, ho, r⟩ := x.2.2; ⟨o, (hs'.2 l hne).trans ho, r⟩⟩ fun b o hb eo => hs'.extBut b o (fun h => hb (by simp [h])) eo
  done := fun s Q E x hQ => by
    have e : (items.size : Int) - 1 - (items.size : Int) = -1 := by omega
    have hit := x.2.1
    rw [e] at hit
    exact RT.next_rt_end hh hit fun h' he' => hQ h' s.toks fun b o hb eo => he' b o (fun h => hb (by simp [h])) eo
  self := fun _ _ _ _ x hQ => RT.iter_rt x.2.1 hQ
theorem slot_rt_hint : Slot "reversed" "__length_hint__" "reversed.__length_hint__" :=
  .of (owner := "reversed") (n := "__length_hint__") (by rw [typeLookup_type, builtinLookup_eq_fast]; kernel_rfl) (by decide +kernel) (by decide +kernel) (by decide +kernel)
    (by first | exact .inl (by decide +kernel) | exact .inr (by decide +kernel)) (by rw [isSubtype_type]; kernel_rfl)
theorem entry_rt_hint : entryFor table "reversed.__length_hint__" = some Builtin.«reversed.__length_hint__» := entryFor_of_tree (by kernel_rfl)
theorem args_rt_hint (a : Value) : argsOk "reversed.__length_hint__" ⟨[a], []⟩ := by
  unfold argsOk; rw [signature?_of (id := "reversed.__length_hint__") (n := ['_', '_', 't', 'n', 'i', 'h', '_', 'h', 't', 'g', 'n', 'e', 'l', '_', '_']) (o := ['d', 'e', 's', 'r', 'e', 'v', 'e', 'r']) (by kernel_rfl) RT.owner_rt]; kernel_rfl
section
variable {prog : Program} {w : World} {A : Around} {E : Value → Shared → Prop} {s : Shared}
theorem call_hint_rt {it t : Addr} {items : Array Value} {Q : Value → Shared → Prop} (hit : RT.IsRt s.heap it t ((items.size : Int) - 1)) (ht : IsTup s.heap t items) (hsz : items.size ≤ sizeLine)
    (h : ∀ u k, s.toks ≤ k → Q (.int (items.size : Nat) u) { s with toks := k }) : wpAny (model prog w) A (call (.builtin "reversed.__length_hint__") [.ref it]) Q E s := by
  obtain ⟨o, ho, hc, hd⟩ := id hit
  rw [sizeLine_eq] at hsz
  refine wpAny_call_entry slot_rt_hint hit.typeIs entry_rt_hint ?_ (args_rt_hint _)
  unfold Builtin.«reversed.__length_hint__»
  refine wpAny_bind (wpAny_of_eq (a := Value.ref it) rfl ?_)
  try dsimp only
  refine wpAny_bind (wpAny_field ho hd (x := .ref t) rfl ?_)
  try dsimp only
  rw [if_neg (show ¬ ((Value.ref t == Value.none) = true) from by simp)]
  try dsimp only
  refine wpAny_bind (len_tuple ht (by omega) ?_)
  refine wpAny_bind (wpAny_of_eq (a := some ((items.size : Nat) : Int)) rfl ?_)
  try dsimp only
  refine wpAny_bind (wpAny_field (s := { s with toks := s.toks + 1 + 1 }) ho hd (x := rawInt ((items.size : Int) - 1)) rfl ?_)
  try dsimp only
  have e1 : (items.size : Int) - 1 + 1 = (items.size : Nat) := by omega
  show wpAny _ _ (if ((items.size : Nat) : Int) < (items.size : Int) - 1 + 1 then _ else _) _ _ _
  rw [if_neg (by omega), e1]
  unfold retInt
  refine wpAny_bind (wpAny_mkInt ?_)
  exact wpAny_pure ⟨_, rfl, h _ _ (by show s.toks ≤ s.toks + 1 + 1 + 1; omega)⟩
end
section
variable {prog : Program} {w : World} {A : Around} {s : Shared} {R : Result → Shared → Prop}
theorem extend_rt (hh : A.handled = none) {I l : Addr} {items : Array Value} (hne : l ≠ I) (hz : items.size ≤ sizeLine) (hit : RT.IsRt s.heap I l ((items.size : Int) - 1)) (ht : IsTup s.heap l items) (S : Addr) (res : Value) (c₀ : Nat) (hSI : S ≠ I) (hSl : S ≠ l)
    (hS : s.heap.get? S = some { cls := .type "list", data := .seq #[] c₀ })
    (hR : ∀ s' acc' c', Moved [S, I] (fun a b => b = a) s s' → s'.heap.get? S = some { cls := .type "list", dict := none, data := .seq acc' c', slots := #[] } → ItemsOf (fun i v => items[items.size - 1 - i]? = some v) acc' items.size → R (.ok (.ret res)) s') :
    wpAny (model prog w) A.in1 (Builtin.List.listExtendWith (.ref S) (.ref I) res)
      (fun fin s' => match fin with | .done f => R (.ok f) s' | .again c' => c'.quiet = true ∧ codeAny (model prog w) A c' R s') (fun e s' => R (.error e) s') s := by
  have W := (walks_rt (prog := prog) (w := w) (A := A.in1) hh I l hne items hz).toS
  have hSf : S ∉ [I, l] := by simp [hSI, hSl]
  have e0 : ((items.size : Nat) : Int) - 1 - ((0 : Nat) : Int) = (items.size : Int) - 1 := by omega
  have hst : (fun (i : Nat) (s : Shared) => i ≤ items.size ∧ RT.IsRt s.heap I l ((items.size : Int) - 1 - (i : Int)) ∧ IsTup s.heap l items) 0 s := ⟨Nat.zero_le _, by rw [e0]; exact hit, ht⟩
  unfold Builtin.List.listExtendWith
  refine wpAny_bind (wpAny_typeOf hit.typeIs ?_)
  have h1 : Builtin.List.listSameRef (.ref S) (.ref I) = false := by simp [Builtin.List.listSameRef, hSI]
  have h2 : (Value.type "reversed" == Value.type "list") = false := by decide
  have h3 : (Value.type "reversed" == Value.type "tuple") = false := by decide
  simp only [h1, h2, h3, Bool.or_false, Bool.false_eq_true, if_false]
  refine wpAny_bind (W.self 0 _ _ _ hst ?_)
  refine wpAny_bind (wpAny_holding ?_)
  unfold Builtin.List.listLengthHint
  refine wpAny_bind (wpAny_specialOf hit.typeIs nolen_rt ?_)
  show wpAny _ A.in1 (specialOf (Value.ref I) (Str.ofString "__length_hint__") >>= _) _ _ _
  refine wpAny_bind (wpAny_specialOf hit.typeIs hint_rt ?_)
  generalize hid : ("reversed.__length_hint__" : String) = id0
  wp_delta
  rw [show splitId id0 = some ("reversed", "__length_hint__") from by subst hid; decide +kernel]
  subst hid
  refine wpAny_bind (wpAny_isInstance (b := true) hit.typeIs (by rw [isSubtype_type]; kernel_rfl) ?_)
  try dsimp only
  rw [if_neg (by decide)]
  rw [if_neg (by decide +kernel)]
  refine wpAny_bind (wpAny_rule ?_)
  refine wpAny_bind (wpAny_of_eq (slot_rt_hint.bind _) ?_)
  try dsimp only
  refine wpAny_bind (wpAny_attempt (call_hint_rt (items := items) hit ht hz fun u k hk => ?_))
  try dsimp only
  have hf : Builtin.List.listFitsIndex ((items.size : Nat) : Int) = true := by
    rw [sizeLine_eq] at hz
    unfold Builtin.List.listFitsIndex
    simp only [Bool.and_eq_true, decide_eq_true_eq]
    omega
  show wpAny _ A.in1 (asInt? (Value.int ((items.size : Nat) : Int) u) >>= _) _ _ _
  have hai : asInt? (Value.int ((items.size : Nat) : Int) u) = pure (some ((items.size : Nat) : Int)) := rfl
  rw [hai, pure_bind]
  try dsimp only
  have hng : ¬ (((items.size : Nat) : Int) < 0) := by omega
  rw [hf, if_neg (show ¬ ((!true) = true) from Bool.false_ne_true), if_neg hng, Int.toNat_natCast, notLongL hz, if_neg Bool.false_ne_true]
  refine wpAny_pure ?_
  have loop : ∀ (h' : Heap) (c' : Nat), (∀ b o, b ≠ S → s.heap.get? b = some o → h'.get? b = some o) → h'.get? S = some { cls := .type "list", data := .seq #[] c' } →
      codeAny (model prog w) A (.builtin "list.extend.loop" ⟨[.ref S, .ref I, res], []⟩) R { s with heap := h', toks := k } := by
    intro h' c' oth hS'
    refine codeAny_extend_loopS W hz _ hSf _ items.size 0 _ _ _ rfl (Nat.zero_le _) (W.frame 0 s h' k hst hk fun b hb o e => oth b o (fun z => hSf (z ▸ hb)) e) hS' (ItemsOf.nil _) fun s' acc' c'' hm hS'' hacc => ?_
    have m0 : Moved [S, I] (fun a b : Array GenState => b = a) s { s with heap := h', toks := k } := (Moved.refl (wr := [S, I]) (G := fun a b : Array GenState => b = a) fun _ => rfl).then_heap hk fun b o hb e => oth b o (fun z => hb (by rw [z]; exact List.mem_cons_self)) e
    exact hR s' acc' c'' (Moved.trans (fun _ _ _ h1 h2 => h2.trans h1) m0 hm) hS'' hacc
  by_cases h0 : items.size = 0
  · have hb : (((items.size : Nat) : Int) != 0) = false := by rw [h0]; rfl
    rw [hb]
    rw [if_neg (by decide +kernel)]
    exact wpAny_pure ⟨plainId_quiet F.plain_extend_loop _, loop s.heap c₀ (fun b o _ e => e) hS⟩
  · have hb : (((items.size : Nat) : Int) != 0) = true := by
      rw [bne_iff_ne]
      omega
    rw [hb, Bool.true_or, if_pos rfl]
    refine wpAny_bind (wpAny_rule ?_)
    refine wpAny_bind ?_
    show wpAny _ A.in1 (updateSeq S (·.push .none) >>= fun _ => updateSeq S (·.pop)) _ _ _
    refine wpAny_bind (wpAny_updateSeq (s := { s with toks := k }) (hz := Nat.zero_le _) (_hz' := Nat.le_add_left 1 _) hS rfl ?_)
    have hS₂ := Heap.get?_update_self (Obj.mapSeq (·.push Value.none)) hS rfl
    refine wpAny_updateSeq (hz := show 1 ≤ sizeLine by rw [sizeLine_eq]; decide) (_hz' := Nat.zero_le _) hS₂ rfl ?_
    have hS₃ := Heap.get?_update_self (Obj.mapSeq (·.pop)) hS₂ rfl
    exact wpAny_pure ⟨plainId_quiet F.plain_extend_loop _, loop _ _ (fun b o hb e => (Heap.get?_update_other _ _ (Ne.symm hb)).trans ((Heap.get?_update_other _ _ (Ne.symm hb)).trans e)) hS₃⟩
theorem list_init_rt (hh : A.handled = none) {I l : Addr} {items : Array Value} (hne : l ≠ I) (hz : items.size ≤ sizeLine) (hit : RT.IsRt s.heap I l ((items.size : Int) - 1)) (ht : IsTup s.heap l items) (S : Addr) (hSI : S ≠ I) (hSl : S ≠ l)
    (hS : s.heap.get? S = some { cls := .type "list", data := .seq #[] })
    (hR : ∀ s' acc' c', Moved [S, I] (fun a b => b = a) s s' → s'.heap.get? S = some { cls := .type "list", dict := none, data := .seq acc' c', slots := #[] } → ItemsOf (fun i v => items[items.size - 1 - i]? = some v) acc' items.size → R (.ok (.ret .none)) s') :
    wpAny (model prog w) A.in1 (Builtin.«list.__init__» ⟨[.ref S, .ref I], []⟩)
      (fun fin s' => match fin with | .done f => R (.ok f) s' | .again c' => c'.quiet = true ∧ codeAny (model prog w) A c' R s') (fun e s' => R (.error e) s') s := by
  show wpAny _ A.in1 (do let old ← Builtin.List.listItems (.ref S); Builtin.List.listUpdate (.ref S) (fun _ => #[]); letGo old.toList.reverse; Builtin.List.listExtendWith (.ref S) (.ref I) .none) _ _ s
  refine wpAny_bind ?_
  unfold Builtin.List.listItems
  refine wpAny_bind (wpAny_seqItems hS rfl (wpAny_pure ?_))
  show wpAny _ A.in1 (updateSeq S (fun _ => #[]) >>= fun _ => letGo (#[] : Array Value).toList.reverse >>= fun _ => Builtin.List.listExtendWith (.ref S) (.ref I) .none) _ _ s
  refine wpAny_bind (wpAny_updateSeq hS rfl ?_)
  have hS₂ := Heap.get?_update_self (Obj.mapSeq (fun _ => (#[] : Array Value))) hS rfl
  have oth : ∀ b o, b ≠ S → s.heap.get? b = some o → (s.heap.update S (Obj.mapSeq (fun _ => (#[] : Array Value)))).get? b = some o :=
    fun b o hb e => (Heap.get?_update_other _ _ (Ne.symm hb)).trans e
  refine wpAny_bind (wpAny_letGo ?_)
  refine extend_rt hh hne hz (s := { s with heap := s.heap.update S (Obj.mapSeq (fun _ => (#[] : Array Value))) }) (hit.at fun o e => oth I o (Ne.symm hSI) e) (let ⟨o, ho, r⟩ := ht; ⟨o, oth l o (Ne.symm hSl) ho, r⟩) S .none _ hSI hSl hS₂ fun s' acc' c' hm hS' hacc => ?_
  have m0 : Moved [S, I] (fun a b : Array GenState => b = a) s { s with heap := s.heap.update S (Obj.mapSeq (fun _ => (#[] : Array Value))) } := (Moved.refl (wr := [S, I]) (G := fun a b : Array GenState => b = a) fun _ => rfl).then_heap (Nat.le_refl _) fun b o hb e => oth b o (fun h => hb (by rw [h]; exact List.mem_cons_self)) e
  exact hR s' acc' c' (Moved.trans (fun _ _ _ h1 h2 => h2.trans h1) m0 hm) hS' hacc
end
section
variable {prog : Program} {w : World} {A : Around} {E : Value → Shared → Prop} {s : Shared}
theorem call_list_rt {Q : Value → Shared → Prop} (hh : A.handled = none) {I l : Addr} {items : Array Value} (hne : l ≠ I) (hz : items.size ≤ sizeLine) (hit : RT.IsRt s.heap I l ((items.size : Int) - 1)) (ht : IsTup s.heap l items)
    (hQ : ∀ (h' : Heap) (tk : Nat) (acc : Array Value) (c' : Nat), (∀ b o, b ≠ I → s.heap.get? b = some o → h'.get? b = some o) → ItemsOf (fun i v => items[items.size - 1 - i]? = some v) acc items.size → h'.get? s.heap.objs.size = some { cls := .type "list", dict := none, data := .seq acc c', slots := #[] } →
      Q (.ref s.heap.objs.size) { s with heap := h', toks := tk }) :
    wpAny (model prog w) A (call (.type "list") [.ref I]) Q E s := by
  obtain ⟨oi, hoi, _⟩ := id hit
  obtain ⟨ol, hol, _⟩ := id ht
  have hSI : s.heap.objs.size ≠ I := Nat.ne_of_gt (Heap.lt_size hoi)
  have hSl : s.heap.objs.size ≠ l := Nat.ne_of_gt (Heap.lt_size hol)
  refine callType_codes (Q₁ := fun obj s₁ => obj = .ref s.heap.objs.size ∧ s₁ = { s with heap := s.heap.push { cls := .type "list", data := .seq #[] } }) F.called_list (F.typeCall_list_1 _) F.entry_list_init
    (code_list_new _ ⟨rfl, rfl⟩) fun obj s₁ h₁ => ?_
  obtain ⟨rfl, rfl⟩ := h₁
  have hS : (s.heap.push { cls := .type "list", data := .seq #[] }).get? s.heap.objs.size = some { cls := .type "list", data := .seq #[] } := Heap.get?_push_size _ rfl
  refine ⟨⟨_, hS, rfl⟩, F.args_list_init_2 _ _, list_init_rt (A := A.in1) hh hne hz (s := { s with heap := s.heap.push { cls := .type "list", data := .seq #[] } }) (hit.at fun o e => Heap.get?_push_of_some _ e) (let ⟨o, ho, r⟩ := ht; ⟨o, Heap.get?_push_of_some _ ho, r⟩) _ hSI hSl hS fun s' acc' c' hm hS' hacc => ?_⟩
  refine ⟨rfl, ?_⟩
  rw [Moved.eq_with hm]
  refine hQ s'.heap s'.toks acc' c' (fun b o hb e => hm.heap b o (fun hmem => ?_) (Heap.get?_push_of_some _ e)) hacc hS'
  rcases List.mem_cons.mp hmem with e' | hmem
  · exact absurd (Heap.lt_size e) (by rw [e']; exact Nat.lt_irrefl _)
  · exact hb (List.mem_singleton.mp hmem)
end
section
variable {X : Cx}
/-- list(reversed(x)), x a tuple: a new list -/
def tLstRev (K : PySem.W.Frag) (te : TE) : TE := fun σ H Q => te σ H fun v H1 => ∃ (a : Addr) (xs : List V), v = .ref a ∧ SqT K H1 a xs ∧ ∀ q, H1 q = none → Q (.ref q) (upd H1 q (.lst xs.reverse))
theorem pe_lstRev (K : PySem.W.Frag) {e : Expr} {te : TE} {p p2 pos pos2 : Pos} (hc : X.calm = true) (hg : Gl X "list") (hm : X.mg "list" = none) (hg2 : Gl X "reversed") (hm2 : X.mg "reversed" = none) (he : PE X e te) (hK : X.K = K := by rfl)
    (hs : starEach [e] X.env = (false, eval e X.env) :: starEach [] X.env := by rfl)
    (hs2 : starEach [.Call (.Name "reversed" p2) [e] [] pos2] X.env = (false, eval (.Call (.Name "reversed" p2) [e] [] pos2) X.env) :: starEach [] X.env := by rfl) :
    PE X (.Call (.Name "list" p) [.Call (.Name "reversed" p2) [e] [] pos2] [] pos) (tLstRev K te) := by
  subst hK
  refine ⟨fun pins s σ H Q I h => ?_⟩
  refine Call_ (ld_blt I hg hm boot_list (PyProof.Rows.callWith_type1 (args_cons (Call_ (ld_blt I hg2 hm2 PyProof.Rows.boot_reversed (PyProof.Rows.callWith_type1 (args_cons (thn (he.run pins s σ H _ I h) fun u s1 ⟨v, H1, I1, r1, q1⟩ => args_nil ?_) hs) hs rfl))) hs2) hs2 rfl))
  obtain ⟨a, xs, ev, hq, q⟩ := q1
  subst ev
  obtain rfl : u = Value.ref a := r1
  obtain ⟨its, rv, p', hz⟩ := I1.tuple hq
  have hl := rv.length
  have hn := line63
  refine RT.call_reversed_tup p' (fun A E Q k => len_tuple p' (by simp only [List.size_toArray] <;> omega) k) (args_nil ?_)
  have k0 : ∀ b o, s1.heap.get? b = some o → (s1.heap.push (RT.rtObj a ((its.toArray.size : Int) - 1))).get? b = some o := fun b o e => Heap.get?_push_of_some _ e
  have I2 : Inv X pins σ H1 { s1 with heap := s1.heap.push (RT.rtObj a ((its.toArray.size : Int) - 1)), toks := s1.toks + 1 + 1 } := I1.kept (t' := s1.toks + 1 + 1) k0
  obtain ⟨f0, f1, f2, f3, f4, f5⟩ := I1.fpOk (H' := H1) (b := s1.heap.objs.size) (Nat.le_refl _) (I1.hok.fresh (Nat.le_refl _))
  obtain ⟨ol, hol, _⟩ := id p'
  have hne : a ≠ s1.heap.objs.size := Nat.ne_of_lt (Heap.lt_size hol)
  have hn : its.toArray.size ≤ sizeLine := by rw [List.size_toArray, ← rv.length]; exact hz
  refine call_list_rt (s := { s1 with heap := s1.heap.push (RT.rtObj a ((its.toArray.size : Int) - 1)), toks := s1.toks + 1 + 1 }) (I1.ok.hd hc) hne hn ⟨_, Heap.get?_push_size _ rfl, rfl, rfl⟩ (let ⟨o, ho, r⟩ := p'; ⟨o, Heap.get?_push_of_some _ ho, r⟩) fun h' tk acc c' hk hi hS => ?_
  have hS0 : (s1.heap.push (RT.rtObj a ((its.toArray.size : Int) - 1))).objs.size = s1.heap.objs.size + 1 := by simp [Heap.push]
  have I3 : Inv X pins σ (upd H1 (s1.heap.push (RT.rtObj a ((its.toArray.size : Int) - 1))).objs.size (.lst xs.reverse)) { s1 with heap := (s1.heap.push (RT.rtObj a ((its.toArray.size : Int) - 1))).push { cls := .type "list", dict := none, data := .seq acc c', slots := #[] }, toks := s1.toks + 1 + 1 } :=
    I2.laid (t' := s1.toks + 1 + 1) (fun b o e => Heap.get?_push_of_some _ e) (Nat.le_refl _) (show ObjOk X.prog X.w _ _ _ (.lst xs.reverse) from ⟨by rw [List.length_reverse]; exact hz, acc.toList, c', RT.vals_rev rv hi, by rw [Array.toArray_toList]; exact Heap.get?_push_size _ rfl⟩)
  have I4 : Inv X pins σ (upd H1 (s1.heap.push (RT.rtObj a ((its.toArray.size : Int) - 1))).objs.size (.lst xs.reverse)) { s1 with heap := h', toks := tk } := by
    refine Inv.turned (s := { s1 with heap := (s1.heap.push (RT.rtObj a ((its.toArray.size : Int) - 1))).push { cls := .type "list", dict := none, data := .seq acc c', slots := #[] }, toks := s1.toks + 1 + 1 }) (h' := h') (t' := tk) (it := s1.heap.objs.size) I3 (fun b o hb e => ?_) ?_ f1 f3 f4 f5
    · by_cases hbS : b = (s1.heap.push (RT.rtObj a ((its.toArray.size : Int) - 1))).objs.size
      · subst hbS
        have e2 := Heap.get?_push_size (h := s1.heap.push (RT.rtObj a ((its.toArray.size : Int) - 1))) (o := { cls := .type "list", dict := none, data := .seq acc c', slots := #[] }) rfl
        rw [e2] at e
        cases e
        exact hS
      · refine hk b o hb ?_
        rw [← Heap.get?_push_ne _ _ _ hbS]
        exact e
    · rw [upd_ne (by rw [hS0]; exact Nat.ne_of_lt (Nat.lt_succ_self _))]
      exact f0
  exact ⟨.ref _, _, I4, rfl, q _ (by
    have := I2.hok.fresh (a := (s1.heap.push (RT.rtObj a ((its.toArray.size : Int) - 1))).objs.size) (Nat.le_refl _)
    exact this)⟩
end
end Qx

/-! Lists of one's own that change. -/
namespace Dx
open PySem PySem.Spec PyProof.Rows L2 Evl Ex
section
variable {K : PySem.W.Frag}
/-! ### two lists of one's own that change -/
structure M2 (B0 H0 B H : Hp) (na wa : Addr) (xs ys : List V) : Prop where
  st : Step (fun _ => False) B0 H0 B H
  n0 : H0 na = none
  w0 : H0 wa = none
  ne : na ≠ wa
  bn : B na = none
  bw : B wa = none
  hn : H na = some (.lst xs)
  hw : H wa = some (.lst ys)
section
variable {B0 H0 B H B5 H5 : Hp} {na wa : Addr} {xs ys : List V}
theorem M2.ok (m : M2 B0 H0 B H na wa xs ys) : Ok Fm.pure B H := Ok.any m.st.bh
theorem M2.pass (m : M2 B0 H0 B H na wa xs ys) (s : Step (fun _ => False) B H B5 H5) : M2 B0 H0 B5 H5 na wa xs ys :=
  ⟨m.st.trans s, m.n0, m.w0, m.ne, s.sep na m.bn ⟨_, m.hn, trivial⟩, s.sep wa m.bw ⟨_, m.hw, trivial⟩, s.ex _ _ m.hn, s.ex _ _ m.hw⟩
theorem step_set {fa : Addr} {o : HO} (s : Step (fun _ => False) B0 H0 B H) (h0 : H0 fa = none) (hb : B fa = none) : Step (fun _ => False) B0 H0 B (upd H fa o) :=
  ⟨s.bb, fun a u h => by rw [upd_ne (ne_of_none h hb)]; exact s.bh _ _ h, fun a u n h => by rw [upd_ne (ne_of_none h h0)]; exact s.keep a u n h, s.sep, fun a n => by
    have ha : a ≠ fa := fun z => n (z ▸ h0)
    rw [upd_ne ha]
    exact s.live a n, fun a n => (s.liv a n).upd fun z => n.ne (z ▸ h0)⟩
theorem M2.setN (m : M2 B0 H0 B H na wa xs ys) (zs : List V) : M2 B0 H0 B (upd H na (.lst zs)) na wa zs ys := ⟨step_set m.st m.n0 m.bn, m.n0, m.w0, m.ne, m.bn, m.bw, upd_same, by rw [upd_ne (Ne.symm m.ne)]; exact m.hw⟩
theorem M2.setW (m : M2 B0 H0 B H na wa xs ys) (zs : List V) : M2 B0 H0 B (upd H wa (.lst zs)) na wa xs zs := ⟨step_set m.st m.w0 m.bw, m.n0, m.w0, m.ne, m.bn, m.bw, by rw [upd_ne m.ne]; exact m.hn, upd_same⟩
/-- na as data at the end -/
theorem ddAll_snoc {Hx : Hp} : ∀ {ds : List PyData} {vs : List V} {d : PyData}, DdAll K Hx vs (ds ++ [d]) → ∃ vs' v, vs = vs' ++ [v] ∧ DdAll K Hx vs' ds ∧ Dd K Hx v d
  | [], _, _, h => by
    obtain ⟨v, rfl, hv⟩ := arg1 h
    exact ⟨[], v, rfl, .nil, hv⟩
  | x :: ds, _, _, h => by
    cases h with
    | cons a t =>
      obtain ⟨vs', v, rfl, h1, h2⟩ := ddAll_snoc t
      exact ⟨_ :: vs', v, rfl, .cons a h1, h2⟩
theorem qm_asg {σ : L2.St} {te : TE} {P0 : PV} {i : Nat} {tz : TS} {D : Ends} (m : M2 B0 H0 B H na wa xs ys) (h : EV Fm.pure te σ B P0) (k : ∀ v B5 H5, M2 B0 H0 B5 H5 na wa xs ys → Ex B B5 → P0 v B5 → tz D (σ.set i (some v)) H5) : tSeq (tAsg te (gName i)) tz D σ H := h B (Ex.refl B) H m.ok _ fun v B5 H5 s5 _ p => k v B5 H5 (m.pass s5) s5.bb p
theorem qm_appN {σ : L2.St} {te : TE} {d : PyData} {i : Nat} {tz : TS} {D : Ends} (m : M2 B0 H0 B H na wa xs ys) (hi : σ[i]? = some (some (.ref na))) (h : ED Fm.pure K te σ B d) (hl : xs.length < 16777216) (k : ∀ v B5 H5, M2 B0 H0 B5 H5 na wa (xs ++ [v]) ys → Ex B B5 → Dd K B5 v d → tz D σ H5) : tSeq (tDrop (tBM K "list" rAppend (tVar i) (tCons te tNil))) tz D σ H :=
  ⟨.ref na, hi, .inl ⟨rfl, _, sq_of m.hn⟩, h B (Ex.refl B) H m.ok _ fun v B5 H5 s5 _ p => ⟨na, xs, v, rfl, rfl, (m.pass s5).hn, by rw [sizeLine_eq]; exact hl, k v B5 _ ((m.pass s5).setN _) s5.bb p⟩⟩
theorem sm_appW {σ : L2.St} {te : TE} {d : PyData} {i : Nat} {D : Ends} (m : M2 B0 H0 B H na wa xs ys) (hi : σ[i]? = some (some (.ref wa))) (h : ED Fm.pure K te σ B d) (hl : ys.length < 16777216) (k : ∀ v B5 H5, M2 B0 H0 B5 H5 na wa xs (ys ++ [v]) → Ex B B5 → Dd K B5 v d → D.nx σ H5) : tDrop (tBM K "list" rAppend (tVar i) (tCons te tNil)) D σ H :=
  ⟨.ref wa, hi, .inl ⟨rfl, _, sq_of m.hw⟩, h B (Ex.refl B) H m.ok _ fun v B5 H5 s5 _ p => ⟨wa, ys, v, rfl, rfl, (m.pass s5).hw, by rw [sizeLine_eq]; exact hl, k v B5 _ ((m.pass s5).setW _) s5.bb p⟩⟩
theorem M2.data (m : M2 B0 H0 B H na wa xs ys) {ds : List PyData} (hd : DdAll K B xs ds) (hl : ds.length ≤ 16777216) : Step (fun _ => False) B0 H0 (upd B na (.lst xs)) H ∧ Dd K (upd B na (.lst xs)) (.ref na) (.list ds) := by
  refine ⟨⟨m.st.bb.trans (Ex.new m.bn), fun a o h => ?_, m.st.keep, fun a h n => ?_, m.st.live, m.st.liv⟩, .lst upd_same (by rw [hd.len, sizeLine_eq]; exact hl) (hd.up (Ex.new m.bn))⟩
  · by_cases e : a = na
    · subst e
      rw [upd_same] at h
      rw [m.hn]
      exact h
    · rw [upd_ne e] at h
      exact m.st.bh a o h
  · have e : a ≠ na := fun z => n.ne (z ▸ m.n0)
    rw [upd_ne e]
    exact m.st.sep a h n
end
section
variable {B0 H0 B H B5 H5 : Hp} {na wa : Addr} {xs ys : List V}
structure S1 (B0 H0 B H : Hp) (na : Addr) (xs : List V) : Prop where
  st : Step (fun _ => False) B0 H0 B H
  n0 : H0 na = none
  bn : B na = none
  hn : H na = some (.lst xs)
section
variable {B0 H0 B H B5 H5 : Hp} {na wa : Addr} {xs ys : List V}
theorem S1.ok (m : S1 B0 H0 B H na xs) : Ok Fm.pure B H := Ok.any m.st.bh
theorem S1.pass (m : S1 B0 H0 B H na xs) (s : Step (fun _ => False) B H B5 H5) : S1 B0 H0 B5 H5 na xs := ⟨m.st.trans s, m.n0, s.sep na m.bn ⟨_, m.hn, trivial⟩, s.ex _ _ m.hn⟩
theorem S1.set (m : S1 B0 H0 B H na xs) (zs : List V) : S1 B0 H0 B (upd H na (.lst zs)) na zs := ⟨step_set m.st m.n0 m.bn, m.n0, m.bn, upd_same⟩
theorem S1.new (m : S1 B0 H0 B H na xs) (h : H wa = none) : M2 B0 H0 B (upd H wa (.lst [])) na wa xs [] := by
  have w0 : H0 wa = none := by
    cases hh : H0 wa with
    | none => rfl
    | some o => exact absurd h (m.st.live wa (by rw [hh]; exact fun z => nomatch z))
  have ne : na ≠ wa := fun z => by rw [← z, m.hn] at h; cases h
  exact ⟨step_set m.st w0 (fresh_back m.st.bh h), m.n0, w0, ne, m.bn, fresh_back m.st.bh h, by rw [upd_ne ne]; exact m.hn, upd_same⟩
theorem M2.shut (m : M2 B0 H0 B H na wa xs ys) {ds : List PyData} (hd : DdAll K B ys ds) (hl : ds.length ≤ 16777216) : S1 B0 H0 (upd B wa (.lst ys)) H na xs ∧ Dd K (upd B wa (.lst ys)) (.ref wa) (.list ds) ∧ Ex B (upd B wa (.lst ys)) := by
  have st : Step (fun _ => False) B0 H0 (upd B wa (.lst ys)) H := ⟨m.st.bb.trans (Ex.new m.bw), fun a o h => by
    by_cases e : a = wa
    · subst e
      rw [upd_same] at h
      rw [m.hw]
      exact h
    · rw [upd_ne e] at h
      exact m.st.bh a o h, m.st.keep, fun a h n => by
    have e : a ≠ wa := fun z => n.ne (z ▸ m.w0)
    rw [upd_ne e]
    exact m.st.sep a h n, m.st.live, m.st.liv⟩
  exact ⟨⟨st, m.n0, by rw [upd_ne m.ne]; exact m.bn, m.hn⟩, .lst upd_same (by rw [hd.len, sizeLine_eq]; exact hl) (hd.up (Ex.new m.bw)), Ex.new m.bw⟩
theorem S1.data (m : S1 B0 H0 B H na xs) {ds : List PyData} (hd : DdAll K B xs ds) (hl : ds.length ≤ 16777216) : Step (fun _ => False) B0 H0 (upd B na (.lst xs)) H ∧ Dd K (upd B na (.lst xs)) (.ref na) (.list ds) := by
  refine ⟨⟨m.st.bb.trans (Ex.new m.bn), fun a o h => ?_, m.st.keep, fun a h n => ?_, m.st.live, m.st.liv⟩, .lst upd_same (by rw [hd.len, sizeLine_eq]; exact hl) (hd.up (Ex.new m.bn))⟩
  · by_cases e : a = na
    · subst e
      rw [upd_same] at h
      rw [m.hn]
      exact h
    · rw [upd_ne e] at h
      exact m.st.bh a o h
  · have e : a ≠ na := fun z => n.ne (z ▸ m.n0)
    rw [upd_ne e]
    exact m.st.sep a h n
theorem qs_asg {σ : L2.St} {te : TE} {P0 : PV} {i : Nat} {tz : TS} {D : Ends} (m : S1 B0 H0 B H na xs) (h : EV Fm.pure te σ B P0) (k : ∀ v B5 H5, S1 B0 H0 B5 H5 na xs → Ex B B5 → P0 v B5 → tz D (σ.set i (some v)) H5) : tSeq (tAsg te (gName i)) tz D σ H := h B (Ex.refl B) H m.ok _ fun v B5 H5 s5 _ p => k v B5 H5 (m.pass s5) s5.bb p
theorem ss_app {σ : L2.St} {te : TE} {d : PyData} {i : Nat} {D : Ends} (m : S1 B0 H0 B H na xs) (hi : σ[i]? = some (some (.ref na))) (h : ED Fm.pure K te σ B d) (hl : xs.length < 16777216) (k : ∀ v B5 H5, S1 B0 H0 B5 H5 na (xs ++ [v]) → Ex B B5 → Dd K B5 v d → D.nx σ H5) : tDrop (tBM K "list" rAppend (tVar i) (tCons te tNil)) D σ H :=
  ⟨.ref na, hi, .inl ⟨rfl, _, sq_of m.hn⟩, h B (Ex.refl B) H m.ok _ fun v B5 H5 s5 _ p => ⟨na, xs, v, rfl, rfl, (m.pass s5).hn, by rw [sizeLine_eq]; exact hl, k v B5 _ ((m.pass s5).set _) s5.bb p⟩⟩
end

theorem ddAll_strs {H : Hp} : ∀ {S : List Str}, (∀ s ∈ S, s.length ≤ 100) → DdAll K H (S.map V.str) (S.map .str)
  | [], _ => .nil
  | s :: S, h => .cons (.str s (by rw [sizeLine_eq]; have := h s List.mem_cons_self; omega)) (ddAll_strs fun x hx => h x (List.mem_cons_of_mem _ hx))
theorem strs_dd {H : Hp} : ∀ {S : List Str} {vs : List V}, DdAll K H vs (S.map .str) → vs = S.map V.str
  | [], _, h => by cases h; rfl
  | s :: S, _, h => by
    cases h with
    | cons a t =>
      rw [(dd_str a).1, strs_dd t]
      rfl
section
variable {B0 H0 B H B5 H5 : Hp} {na wa : Addr} {xs ys : List V} {σ : L2.St} {te : TE} {tas : TA} {ds : List PyData} {d : PyData} {i : Nat} {tz : TS} {D : Ends}
/-- x = [] -/
theorem qs_new (k0 : Ok Fm.pure B H) (k : ∀ na, S1 B H B (upd H na (.lst [])) na [] → tz D (σ.set i (some (.ref na))) (upd H na (.lst []))) : tSeq (tAsg (tLst tNil) (gName i)) tz D σ H :=
  ⟨Nat.zero_le _, fun na hna => k na ⟨step_set (Step.refl k0.e) hna (fresh_back k0.e hna), hna, fresh_back k0.e hna, upd_same⟩⟩
theorem S1.newL (m : S1 B0 H0 B H na xs) (zs : List V) (h : H wa = none) : M2 B0 H0 B (upd H wa (.lst zs)) na wa xs zs := by
  have w0 : H0 wa = none := by
    cases hh : H0 wa with
    | none => rfl
    | some o => exact absurd h (m.st.live wa (by rw [hh]; exact fun z => nomatch z))
  have ne : na ≠ wa := fun z => by rw [← z, m.hn] at h; cases h
  exact ⟨step_set m.st w0 (fresh_back m.st.bh h), m.n0, w0, ne, m.bn, fresh_back m.st.bh h, by rw [upd_ne ne]; exact m.hn, upd_same⟩
/-- x = [..] -/
theorem qs_lst (m : S1 B0 H0 B H na xs) (h : EDs Fm.pure K tas σ B ds) (hl : ds.length ≤ 16777216) (k : ∀ wa vs B5 H5, M2 B0 H0 B5 H5 na wa xs vs → DdAll K B5 vs ds → Ex B B5 → tz D (σ.set i (some (.ref wa))) H5) : tSeq (tAsg (tLst tas) (gName i)) tz D σ H :=
  h B (Ex.refl B) H m.ok _ fun vs B5 H5 s5 _ p => ⟨by rw [DdAll.len p, sizeLine_eq]; exact hl, fun wa hwa => k wa vs B5 _ ((m.pass s5).newL vs hwa) p s5.bb⟩
/-- x = waiting.pop() -/
theorem qm_pop {y : V} (m : M2 B0 H0 B H na wa xs (ys ++ [y])) {j : Nat} (hi : σ[j]? = some (some (.ref wa))) (k : M2 B0 H0 B (upd H wa (.lst ys)) na wa xs ys → tz D (σ.set i (some y)) (upd H wa (.lst ys))) : tSeq (tAsg (tBM0 K "list" rPop (tVar j)) (gName i)) tz D σ H := by
  refine ⟨.ref wa, hi, .inl ⟨rfl, _, sq_of m.hw⟩, wa, _, y, rfl, rfl, m.hw, by rw [List.length_append]; simp, ?_⟩
  rw [List.dropLast_concat]
  exact k (m.setW ys)
/-- waiting.extend(a tuple) -/
theorem sm_extT (m : M2 B0 H0 B H na wa xs ys) (hi : σ[i]? = some (some (.ref wa))) (h : ED Fm.pure K te σ B (.tuple ds)) (hl : ys.length + ds.length ≤ 16777216) (k : ∀ vs B5 H5, M2 B0 H0 B5 H5 na wa xs (ys ++ vs) → Ex B B5 → DdAll K B5 vs ds → D.nx σ H5) : tDrop (tBM K "list" (Qx.rExtendT K) (tVar i) (tCons te tNil)) D σ H :=
  ⟨.ref wa, hi, .inl ⟨rfl, _, sq_of m.hw⟩, h B (Ex.refl B) H m.ok _ fun v B5 H5 s5 _ p => by
    obtain ⟨b, zs, rfl, h1, _, g⟩ := dd_tup p
    have m5 := m.pass s5
    exact ⟨wa, b, ys, zs, rfl, rfl, m5.hw, ex_t m5.st.bh h1, by rw [g.len, sizeLine_eq]; exact hl, k zs B5 _ (m5.setW _) s5.bb g⟩⟩
/-- waiting.extend(a list) -/
theorem sm_extL (m : M2 B0 H0 B H na wa xs ys) (hi : σ[i]? = some (some (.ref wa))) (h : ED Fm.pure K te σ B (.list ds)) (hl : ys.length + ds.length ≤ 16777216) (k : ∀ vs B5 H5, M2 B0 H0 B5 H5 na wa xs (ys ++ vs) → Ex B B5 → DdAll K B5 vs ds → D.nx σ H5) : tDrop (tBM K "list" rExtend (tVar i) (tCons te tNil)) D σ H :=
  ⟨.ref wa, hi, .inl ⟨rfl, _, sq_of m.hw⟩, h B (Ex.refl B) H m.ok _ fun v B5 H5 s5 _ p => by
    obtain ⟨b, zs, rfl, h1, _, g⟩ := dd_lst p
    have m5 := m.pass s5
    exact ⟨wa, b, ys, zs, rfl, rfl, m5.hw, m5.st.bh _ _ h1, by rw [g.len, sizeLine_eq]; exact hl, k zs B5 _ (m5.setW _) s5.bb g⟩⟩
end
section
variable {F : Fm} {B : Hp} {σ : L2.St} {te : TE} {ds : List PyData} {S : List Str} {k : Str}
theorem ed_lstRev (h : ED F K te σ B (.tuple ds)) : ED F K (Qx.tLstRev K te) σ B (.list ds.reverse) := fun B1 e0 H j Q q => h B1 e0 H j _ fun v B2 H2 s2 j2 g => by
  obtain ⟨a, xs, rfl, h1, l1, g1⟩ := dd_tup g
  refine ⟨a, xs, rfl, ex_t j2.e h1, fun p hp => q _ _ _ (s2.trans (Step.alloc j2.e hp)) (j2.alloc hp) (.lst upd_same (by rw [List.length_reverse]; exact l1) (g1.rev.up (Ex.new (fresh_back j2.e hp))))⟩
theorem ed_cntS (h : ED F K te σ B (.list (S.map .str))) : ED F K (tBM K "list" (Qx.rCntS K) te (tCons (tC (.str k)) tNil)) σ B (.int (S.count k : Nat)) := fun B1 e0 H j Q q => h B1 e0 H j _ fun v B2 H2 s2 j2 g => by
  obtain ⟨a, xs, rfl, h1, l1, g1⟩ := dd_lst g
  obtain rfl := strs_dd g1
  have h2 := j2.e _ _ h1
  exact ⟨.inl ⟨rfl, _, sq_of h2⟩, a, S, k, rfl, rfl, sq_of h2, q _ B2 H2 s2 j2 (.int _)⟩
theorem rc_lstT' {F : Fm} {B : Hp} {ds : List PyData} : RDc F K (fun xs H Q => ∃ p ys, xs = [.ref p] ∧ (SqL K H p ys ∨ SqT K H p ys) ∧ ∀ l, H l = none → Q (.ref l) (upd H l (.lst ys))) B [.tuple ds] (.list ds) := fun B1 e0 H us jj hu Q q => by
  obtain ⟨v, rfl, hv⟩ := arg1 hu
  obtain ⟨a, xs, rfl, h1, l1, g1⟩ := dd_tup hv
  exact ⟨a, xs, rfl, .inr (ex_t jj.e h1), fun l hl => q _ _ _ (Step.alloc jj.e hl) (jj.alloc hl) (.lst upd_same l1 (g1.up (Ex.new (fresh_back jj.e hl))))⟩
end
end
section
variable {B0 H0 B H B5 H5 : Hp} {na : Addr} {xs : List V} {σ : L2.St} {te tl : TE} {t : TT} {tu tw tz tb : TS} {b : Bool} {P : PV} {i j : Nat} {D : Ends} {ds : List PyData}
theorem ss_if (m : S1 B0 H0 B H na xs) (h : ETt Fm.pure t σ B b) (h1 : b = true → ∀ B5 H5, S1 B0 H0 B5 H5 na xs → Ex B B5 → tu D σ H5) (h2 : b = false → ∀ B5 H5, S1 B0 H0 B5 H5 na xs → Ex B B5 → tw D σ H5) : tIfS t tu tw D σ H := h B (Ex.refl B) H m.ok _ fun B5 H5 s5 _ => by
  cases b with
  | true =>
    show tu D σ H5
    exact h1 rfl B5 H5 (m.pass s5) s5.bb
  | false =>
    show tw D σ H5
    exact h2 rfl B5 H5 (m.pass s5) s5.bb
theorem qs_when (m : S1 B0 H0 B H na xs) (h : ETt Fm.pure t σ B b) (h1 : b = true → ∀ B5 H5, S1 B0 H0 B5 H5 na xs → Ex B B5 → tu { D with nx := tz D } σ H5) (h2 : b = false → ∀ B5 H5, S1 B0 H0 B5 H5 na xs → Ex B B5 → tz D σ H5) : tSeq (tIfS t tu tNext) tz D σ H := ss_if (D := { D with nx := tz D }) m h h1 h2
theorem ss_ret (m : S1 B0 H0 B H na xs) (h : EV Fm.pure te σ B P) (k : ∀ v B5 H5, S1 B0 H0 B5 H5 na xs → Ex B B5 → P v B5 → D.rt v H5) : tRet te D σ H := h B (Ex.refl B) H m.ok _ fun v B5 H5 s5 _ p => k v B5 H5 (m.pass s5) s5.bb p
theorem qs_pop {y : V} {ys : List V} (m : S1 B0 H0 B H na (ys ++ [y])) (hi : σ[j]? = some (some (.ref na))) (k : S1 B0 H0 B (upd H na (.lst ys)) na ys → tz D (σ.set i (some y)) (upd H na (.lst ys))) : tSeq (tAsg (tBM0 K "list" rPop (tVar j)) (gName i)) tz D σ H := by
  refine ⟨.ref na, hi, .inl ⟨rfl, _, sq_of m.hn⟩, na, _, y, rfl, rfl, m.hn, by rw [List.length_append]; simp, ?_⟩
  rw [List.dropLast_concat]
  exact k (m.set ys)
/-- x = x + a list: another list -/
theorem ss_add (m : S1 B0 H0 B H na xs) (hi : σ[i]? = some (some (.ref na))) (h : ED Fm.pure K te σ B (.list ds)) (hl : xs.length + ds.length ≤ 16777216) (k : ∀ na' us B5 H5, S1 B0 H0 B5 H5 na' (xs ++ us) → Ex B B5 → DdAll K B5 us ds → D.nx (σ.set i (some (.ref na'))) H5) : tAsg (tOp (rAddA K) (tVar i) te) (gName i) D σ H := by
  refine ⟨.ref na, hi, h B (Ex.refl B) H m.ok _ fun v B5 H5 s5 j5 g => ?_⟩
  obtain ⟨b, us, rfl, h1, _, g1⟩ := dd_lst g
  have m5 := m.pass s5
  refine .inr (.inr (.inl ⟨na, b, xs, us, rfl, rfl, m5.hn, m5.st.bh _ _ h1, by rw [g1.len, sizeLine_eq]; exact hl, fun p hp => ?_⟩))
  have p0 : H0 p = none := by
    cases hh : H0 p with
    | none => rfl
    | some o => exact absurd hp (m5.st.live p (by rw [hh]; exact fun z => nomatch z))
  exact k p us B5 _ ⟨step_set m5.st p0 (fresh_back m5.st.bh hp), p0, fresh_back m5.st.bh hp, upd_same⟩ s5.bb g1
/-- for x, y in pairs -/
theorem q_forP (ok : Ok Fm.pure B H) (h : EV Fm.pure tl σ B (SqV K (DDs K ds))) (hp : ∀ d ∈ ds, ∃ x y, d = .tuple [x, y]) (J : Nat → L2.St → Hp → Hp → Prop) (hj : ∀ i σ B H, J i σ B H → Ex B H) (h0 : ∀ B1 H1, Step (fun _ => False) B H B1 H1 → J 0 σ B1 H1)
    (hs : ∀ Bb n x y u v σ' B1 H1, ds[n]? = some (.tuple [x, y]) → Ex B Bb → Ex Bb B1 → Dd K B1 u x → Dd K B1 v y → J n σ' B1 H1 → tb { D with nx := fun σ2 H2 => ∃ B2, Ex Bb B2 ∧ J (n + 1) σ2 B2 H2, ct := fun σ2 H2 => ∃ B2, Ex Bb B2 ∧ J (n + 1) σ2 B2 H2, bk := tz D } ((σ'.set i (some u)).set j (some v)) H1)
    (hd : ∀ σ' B1 H1, Ex B B1 → J ds.length σ' B1 H1 → tz D σ' H1) : tSeq (tFor (iSeq K tl) (g2 K i j) tb) tz D σ H := by
  refine h B (Ex.refl B) H ok _ fun v B1 H1 s1 j1 pv => ?_
  obtain ⟨l, vs, rfl, hl, ps⟩ := pv
  have ps' : DdAll K B1 vs ds := ps
  have turn : ∀ n x σ' H', vs[n]? = some x → (∃ B2, Ex B1 B2 ∧ J n σ' B2 H') → g2 K i j x σ' H' fun σ2 H2 => tb { D with nx := fun σ2 H2 => ∃ B2, Ex B1 B2 ∧ J (n + 1) σ2 B2 H2, ct := fun σ2 H2 => ∃ B2, Ex B1 B2 ∧ J (n + 1) σ2 B2 H2, bk := tz D } σ2 H2 := by
    rintro n x σ' H' hx ⟨B2, e2, q⟩
    obtain ⟨d, hd, hdv⟩ := ps'.getv hx
    obtain ⟨a, c, rfl⟩ := hp d (List.mem_of_getElem? hd)
    obtain ⟨t, us, rfl, h1, _, hus⟩ := dd_tup hdv
    obtain ⟨u, w, rfl, hu, hw⟩ := arg2 hus
    refine ⟨t, _, rfl, ex_t (e2.trans (hj _ _ _ _ q)) h1, rfl, u, _, rfl, w, _, rfl, rfl, ?_⟩
    exact hs B1 n a c u w σ' B2 H' hd s1.bb e2 (hu.up e2) (hw.up e2) q
  have fin : ∀ σ' H', (∃ B2, Ex B1 B2 ∧ J vs.length σ' B2 H') → tz D σ' H' := fun σ' H' ⟨B2, e2, q⟩ => hd σ' B2 H' (s1.bb.trans e2) (by rw [← ps'.len]; exact q)
  refine ⟨l, rfl, ?_⟩
  rcases hl with hl | hl
  · refine .inl ⟨⟨vs, ex_l j1.e hl⟩, for_list (K := K) (xs := vs) (fun n σ' H' => ∃ B2, Ex B1 B2 ∧ J n σ' B2 H') ⟨B1, Ex.refl B1, h0 B1 H1 s1⟩ (fun n σ' H' _ ⟨B2, e, q⟩ => ex_l (hj _ _ _ _ q) (ex_l e hl)) turn fin⟩
  · refine .inr ⟨⟨vs, ex_t j1.e hl⟩, for_tup (K := K) (xs := vs) (fun n σ' H' => ∃ B2, Ex B1 B2 ∧ J n σ' B2 H') ⟨B1, Ex.refl B1, h0 B1 H1 s1⟩ (fun n σ' H' _ ⟨B2, e, q⟩ => ex_t (hj _ _ _ _ q) (ex_t e hl)) turn fin⟩
end
end
end Dx

/-! sorted of tuples of ints, any number of them -/
namespace Vx
open PySem PySem.Spec PyProof.Rows
section
variable {prog : Program} {w : World} {A : Around} {s : Shared}
theorem lex_kat {Q : Bool → Shared → Prop} : ∀ {xs ys : List Value} {ns ms : List Int}, IntsAre xs ns → IntsAre ys ms → ns.length = ms.length → ∀ i : Nat, Q (HT.lexLt ns ms) s → PySem.W.KatLex prog w A true false Q (xs.zip ys) i s
  | _, _, _, _, .nil, .nil, _, i, h => PySem.W.kat_nil h
  | _, _, _, _, .nil, .cons _ _ _, hl, i, h => by cases hl
  | _, _, _, _, .cons _ _ _, .nil, hl, i, h => by cases hl
  | _, _, _, _, .cons n t r, .cons m u r', hl, i, h => by
    rw [HT.lexLt_cons] at h
    show PySem.W.KatLex prog w A true false Q ((Value.int n t, Value.int m u) :: _) i s
    refine PySem.W.kat_cons (SeqAt.EqAt.int_int n t m u prog w _ _ ?_)
    refine PySem.W.kat_go (fun e1 => ?_) (fun e1 => ?_)
    · have ex : n = m := by simpa using e1
      rw [if_pos ex] at h
      exact PySem.W.kat_yes (lex_kat r r' (by simpa using hl) (i + 1) h)
    · have ex : ¬ n = m := by simpa using e1
      rw [if_neg ex] at h
      cases i with
      | zero => exact PySem.W.kat_no (PyProof.Rows.oneLt_int h)
      | succ i => exact PySem.W.kat_no (PySem.W.kat_one _ _ (PyProof.Rows.lt_int h))
def TupsN (h : Heap) (d : Nat) (k : Value → List Int) (vs : List Value) : Prop := ∀ v ∈ vs, TS.TupInts h v (k v) ∧ (k v).length = d
theorem firsts {h : Heap} {d : Nat} {k : Value → List Int} (hd : 1 ≤ d) : ∀ {vs : List Value}, TupsN h d k vs → ∃ fs : List Value, PySem.W.KatTups h vs fs ∧ fs.length = vs.length ∧ ∀ f ∈ fs, ∃ n t, f = Value.int n t
  | [], _ => ⟨[], PySem.W.KatTups.nil, rfl, fun f hf => by simp at hf⟩
  | v :: vs, x => by
    obtain ⟨fs, h1, h2, h3⟩ := firsts hd (vs := vs) fun u hu => x u (List.mem_cons_of_mem _ hu)
    obtain ⟨⟨a, xs, e, ⟨o, ho, hc, n, hdt⟩, i⟩, hn⟩ := x v (List.mem_cons_self ..)
    obtain ⟨y, ys, ey⟩ : ∃ y ys, xs.toList = y :: ys := by
      cases q : xs.toList with
      | nil =>
        rw [q] at i
        have l := i.length
        rw [List.length_nil, hn] at l
        omega
      | cons y ys => exact ⟨y, ys, rfl⟩
    obtain ⟨m, t, hy⟩ := i.all y (by rw [ey]; exact List.mem_cons_self ..)
    subst e
    refine ⟨y :: fs, PySem.W.KatTups.cons ho hc hdt ?_ h1, by rw [List.length_cons, List.length_cons, h2], fun f hf => ?_⟩
    · rw [← Array.getElem?_toList, ey]
      rfl
    · rcases List.mem_cons.mp hf with rfl | hf
      · exact ⟨m, t, hy⟩
      · exact h3 f hf
theorem tups_cmp {vs : List Value} {d : Nat} {k : Value → List Int} (hp : TupsN s.heap d k vs) : SrtO.Cmp prog w A s (tuples' true) (fun p => p.1 ∈ vs) (SrtO.lt2 fun v u => HT.lexLt (k v) (k u)) := by
  intro p q hm hm'
  obtain ⟨⟨a, xs, e, ⟨o, ho, hc, n, hdt⟩, i⟩, hn⟩ := hp _ hm
  obtain ⟨⟨a', xs', e', ⟨o', ho', hc', n', hdt'⟩, i'⟩, hn'⟩ := hp _ hm'
  show wpAny (model prog w) A (keyLt' (tuples' true) p.1 q.1) (fun r s' => s' = s ∧ r = HT.lexLt (k p.1) (k q.1)) (fun _ _ => False) s
  have l1 := i.length
  have l2 := i'.length
  generalize k p.1 = ns at i hn l1 ⊢
  generalize k q.1 = ms at i' hn' l2 ⊢
  rw [e, e']
  refine PySem.W.kat_lt ho hdt ho' hdt' ?_
  have hz : decide (xs.size < xs'.size) = false := decide_eq_false (by rw [← Array.length_toList, ← Array.length_toList]; omega)
  rw [hz]
  exact lex_kat i i' (by rw [hn, hn']) 0 ⟨rfl, rfl⟩
theorem swo_lex (k : Value → List Int) : SrtO.Swo fun v u => HT.lexLt (k v) (k u) := NtL.swo_lexL k
theorem tups_sortable {a : Addr} {vs : List Value} {d : Nat} {k : Value → List Int} (hd : 1 ≤ d) (h0 : 0 < vs.length) (hp : TupsN s.heap d k vs) (ha : ∀ o, s.heap.get? a = some o → o.cls ≠ .type "tuple") : SrtO.SortableO prog w A s a vs fun v u => HT.lexLt (k v) (k u) := by
  intro h' keep
  have hp' : TupsN h' d k vs := fun v hm => ⟨(hp v hm).1.keeps fun b o e c => keep b o (fun z => by subst z; exact ha o e c) e, (hp v hm).2⟩
  obtain ⟨fs, h1, h2, h3⟩ := firsts hd hp'
  refine ⟨tuples' true, fun Q E hq => ?_, tups_cmp hp'⟩
  refine PySem.W.kat_kind (T := .type "int") h1 (by omega) (fun f hm => ?_) (by rfl) ?_
  · obtain ⟨x, t, rfl⟩ := h3 f hm
    exact PySem.W.Looks.now
  · have e : (Value.type "int" != Value.type "tuple") = true := by first | decide +kernel | rfl | decide
    rw [e]
    exact hq
end
end Vx
namespace L2
open PySem PySem.Spec PyProof.Rows
/-- sorted(xs), xs a list of tuples of d ints each, any number of them -/
def rSortTI (K : PySem.W.Frag) (d : Nat) : List V → Hp → VK → Prop := fun vs H Q => ∃ (a : Addr) (xs : List V) (k : V → List Int), vs = [V.ref a] ∧ SqL K H a xs ∧ (∀ x ∈ xs, TupI K H x (k x) ∧ (k x).length = d) ∧
  ∀ (ys : List V) (p : Addr), ys.Perm xs → ys.Pairwise (fun x y => HT.lexLt (k y) (k x) = false) → H p = none → Q (.ref p) (upd H p (.lst ys))
section
variable {X : Cx}
theorem cr_sortTI {d : Nat} (K : PySem.W.Frag) (hd : 1 ≤ d) (hK : X.K = K := by rfl) : CallR X (.builtin "sorted") (rSortTI K d) := by
  subst hK
  intro pins s σ H vs us Q I r h
  obtain ⟨a, xs, k, rfl, hs, hx, q⟩ := h
  obtain ⟨its, rv, hl, hz⟩ := I.list hs
  rw [Vals.ref1 r]
  obtain ⟨e1, e2⟩ := bkV_refs rv fun x m => by
    obtain ⟨⟨t, e, _⟩, _⟩ := hx x m
    exact ⟨t, e⟩
  have tn : Vx.TupsN s.heap d (fun u => k (bkV u)) its := fun v hv => by
    obtain ⟨t, rfl⟩ := e2 v hv
    have hm : V.ref t ∈ xs := by
      rw [e1]
      exact List.mem_map.mpr ⟨_, hv, rfl⟩
    obtain ⟨⟨t', e, ht⟩, hn⟩ := hx _ hm
    cases e
    exact ⟨tupI_raw I ht, hn⟩
  refine SrtO.sorted_ord (Vx.swo_lex fun u => k (bkV u)) hl.isList (by rw [← rv.length]; exact hz) (fun h2 h₁ a' ho keep => Vx.tups_sortable (s := { s with heap := h₁ }) hd (by omega) (fun v hv => ⟨(tn v hv).1.keeps fun b o e c => (keep b o e).2, (tn v hv).2⟩) fun o e c => ?_) fun out h1 h2 => ?_
  · have e' : some o = some (seqObj "list" its.toArray 0) := e.symm.trans ho
    cases e'
    exact absurd (Value.type.inj c) (by decide)
  · obtain ⟨ep, he'⟩ := PyProof.Rows.sortedAll_at s.heap its out.toArray
    have h3 : ∀ u ∈ out, ∃ a, u = Value.ref a := fun u hu => e2 u (h2.perm.mem_iff.mp hu)
    have hp : (out.map bkV).Perm xs := by
      rw [e1]
      exact h2.perm.map bkV
    have hlen : (out.map bkV).length ≤ sizeLine := by
      rw [hp.length_eq]
      exact hz
    refine ⟨.ref _, upd H (s.heap.objs.size + 1) (.lst (out.map bkV)), I.laid (t' := s.toks) (fun _ _ => PyProof.Rows.sortedAll_old) (Nat.le_succ _) ⟨hlen, out, ep, bkV_vals h3, he'⟩, rfl, q _ _ hp ?_ (I.hok.fresh (Nat.le_succ _))⟩
    rw [List.pairwise_map]
    exact h1.imp fun {u v} huv => huv
/-- sorted(d), d a dict whose keys are tuples of n ints each, any number of them -/
def rSortDT (n : Nat) : List V → Hp → VK → Prop := fun vs H Q => ∃ (a : Addr) (kvs : List (List Key × V)) (ks : List (List Int)), vs = [V.ref a] ∧ H a = some (.dT kvs) ∧ kvs.map (·.1) = ks.map (fun k => k.map Sum.inl) ∧ (∀ k ∈ ks, k.length = n) ∧
  ∀ (ys : List V) (zs : List (List Int)) (p : Addr), zs.Perm ks → zs.Pairwise (fun x y => HT.lexLt y x = false) → Paired (fun y z => ∃ t, y = V.ref t ∧ H t = some (.tup (z.map V.int))) ys zs → H p = none → Q (.ref p) (upd H p (.lst ys))
theorem kV_inl : ∀ k : List Int, (k.map (Sum.inl : Int → Key)).map kV = k.map V.int
  | [] => rfl
  | n :: k => by
    show V.int n :: _ = V.int n :: _
    rw [← kV_inl k]
theorem isKeys_ints {H : Hp} : ∀ {kvs : List (List Key × V)} {bs : List Addr} {ks : List (List Int)}, IsKeys H kvs bs → kvs.map (·.1) = ks.map (fun k => k.map Sum.inl) → Paired (fun b k => H b = some (.tup (k.map V.int))) bs ks
  | _, _, [], .nil, _ => .nil
  | _, _, k :: ks, .nil, e => by cases e
  | _, _, [], .cons _ _, e => by cases e
  | (k', v) :: kvs, b :: bs, k :: ks, .cons h t, e => by
    have e1 : k' = k.map Sum.inl := (List.cons.inj e).1
    have e2 := (List.cons.inj e).2
    refine .cons ?_ (isKeys_ints t e2)
    have h' : H b = some (.tup (k'.map kV)) := h
    rw [e1, kV_inl] at h'
    exact h'
theorem prd_mem {α β : Type} {F : α → β → Prop} : ∀ {l : List α} {m : List β}, Paired F l m → ∀ x ∈ l, ∃ y ∈ m, F x y
  | _, _, .nil, x, h => nomatch h
  | _, _, .cons h t, x, hx => by
    rcases List.mem_cons.mp hx with rfl | hx
    · exact ⟨_, List.mem_cons_self, h⟩
    · obtain ⟨y, hy, hF⟩ := prd_mem t x hx
      exact ⟨y, List.mem_cons_of_mem _ hy, hF⟩
/-- the ints of the tuple at b -/
def tupOf (H : Hp) (b : Addr) : List Int := match H b with
  | some (.tup xs) => xs.filterMap fun v => match v with | .int i => some i | _ => none
  | _ => []
theorem tupOf_is {H : Hp} {b : Addr} {k : List Int} (h : H b = some (.tup (k.map V.int))) : tupOf H b = k := by
  unfold tupOf
  rw [h]
  show (k.map V.int).filterMap _ = k
  rw [List.filterMap_map]
  exact List.filterMap_some
theorem prd_keys {H : Hp} : ∀ {bs : List Addr} {ks : List (List Int)}, Paired (fun b k => H b = some (.tup (k.map V.int))) bs ks → bs.map (tupOf H) = ks
  | _, _, .nil => rfl
  | _, _, .cons h t => by rw [List.map_cons, tupOf_is h, prd_keys t]
theorem keys_prd {H : Hp} : ∀ {cs : List Addr}, (∀ b ∈ cs, H b = some (.tup ((tupOf H b).map V.int))) → Paired (fun y z => ∃ t, y = V.ref t ∧ H t = some (.tup (z.map V.int))) (cs.map V.ref) (cs.map (tupOf H))
  | [], _ => .nil
  | c :: cs, h => .cons ⟨c, rfl, h c List.mem_cons_self⟩ (keys_prd fun b hb => h b (List.mem_cons_of_mem _ hb))
theorem cr_sortDT {n : Nat} (hn1 : 1 ≤ n) (hc : X.calm = true) : CallR X (.builtin "sorted") (rSortDT n) := by
  intro pins s σ H xs us Q I r h
  obtain ⟨d, kvs, ks, rfl, hd, hks, hlen, q⟩ := h
  obtain ⟨u, rfl, rx⟩ := r.one
  cases rx
  obtain ⟨z, hs, kx, pr, o, es, ep, ho, hx, hdt, he, hn⟩ := (show ObjOk X.prog X.w H s.heap d (.dT kvs) from I.hok d _ hd)
  have l1 : es.size = kx.length := size_of_entries he
  have l2 : kvs.length = kx.length := Paired.length pr
  refine Calls.call_function_entry PyProof.Rows.kind_sorted PyProof.Rows.plain_sorted PyProof.Rows.entry_sorted (PyProof.Rows.args_sorted1 _) ?_
  unfold Builtin.«sorted»
  refine wpAny_bind (m := checkCount "sorted" 1 1 _) (wpAny_pure ?_)
  refine wpAny_bind (PySem.W.kdu_collect (A := X.A.in1) (kdl_raw hs hx hdt) (I.ok.hd hc) ho (by omega) fun h' tk acc kp it => ?_)
  have ea : acc.toList = (kx.map fun x => x.2.1).map Value.ref := by
    have hl : acc.toList.length = kx.length := by rw [Array.length_toList, it.1]; exact l1
    rw [List.map_map]
    apply List.ext_getElem?
    intro j
    rw [List.getElem?_map]
    cases hj : acc.toList[j]? with
    | none =>
      have h1 := List.getElem?_eq_none_iff.mp hj
      rw [List.getElem?_eq_none (by omega)]
      all_goals rfl
    | some v =>
      obtain ⟨en, hen, hv⟩ := it.2 j v (by rw [← Array.getElem?_toList]; exact hj)
      have qe := entry_at he j
      rw [hen] at qe
      cases hb : kx[j]? with
      | none =>
        rw [hb] at qe
        exact nomatch (show some en = none from qe)
      | some b =>
        rw [hb] at qe
        have e2 : en = entryOfKey (tupleKind (mixKind X.prog X.w)) b := Option.some.inj qe
        rw [hv, e2]
        all_goals rfl
  have pk := isKeys_ints (isKeys_of pr) hks
  have hmap := prd_keys pk
  have I1 : Inv X pins σ H { s with heap := h', toks := tk } := I.kept kp
  have hz : acc.toList.length ≤ sizeLine := by rw [ea, List.length_map, List.length_map]; omega
  refine wpAny_bind (wpAny_newList ?_ hz)
  have hoL : (h'.push (seqObj "list" acc.toList.toArray 0)).get? h'.objs.size = some (seqObj "list" acc.toList.toArray 0) := Heap.get?_push_size _ rfl
  show wpAny _ _ _ _ _ { s with heap := h'.push (seqObj "list" acc.toList.toArray 0), toks := tk }
  have hb0 : ∀ b ∈ kx.map (fun x => x.2.1), H b = some (.tup ((tupOf H b).map V.int)) ∧ (tupOf H b).length = n := fun b hb => by
    obtain ⟨k, hk, h1⟩ := prd_mem pk b hb
    rw [tupOf_is h1]
    exact ⟨h1, hlen k hk⟩
  have tn : Vx.TupsN h' n (fun u => match u with | .ref b => tupOf H b | _ => []) acc.toList := fun v hv => by
    rw [ea] at hv
    obtain ⟨b, hb, rfl⟩ := List.mem_map.mp hv
    exact ⟨tupI_raw I1 (.inl (.inl (hb0 b hb).1)), (hb0 b hb).2⟩
  refine wpAny_bind (wpAny_holding (wpAny_call_entry PyProof.Rows.slot_list_sort ⟨_, hoL, rfl⟩ PyProof.Rows.entry_list_sort
    (SrtO.list_sort_ord (s := { s with heap := h'.push (seqObj "list" acc.toList.toArray 0), toks := tk }) (Vx.swo_lex _) hoL hz (fun h2 => Vx.tups_sortable hn1 (by omega) (fun v hv => ⟨(tn v hv).1.keeps fun b o e c => Heap.get?_push_of_some _ e, (tn v hv).2⟩) fun o e c => ?_) fun out g1 g2 => ⟨_, rfl, ?_⟩) (PyProof.Rows.args_list_sort _)))
  · have e' : some o = some (seqObj "list" acc.toList.toArray 0) := e.symm.trans hoL
    cases e'
    exact absurd (Value.type.inj c) (by decide)
  · obtain ⟨e', he'⟩ := PyProof.Rows.sortedHeap_at (vs := acc.toList) (out := out.toArray) hoL
    have g2p := g2.perm
    have hperm : (out.map adO).Perm (kx.map fun x => x.2.1) := by
      have p1 := g2p.map adO
      rw [ea, ad_map] at p1
      exact p1
    have eo : out = (out.map adO).map Value.ref := ref_map fun u hm => by
      have hm' : u ∈ acc.toList := g2p.mem_iff.mp hm
      rw [ea] at hm'
      obtain ⟨t, _, e⟩ := List.mem_map.mp hm'
      exact ⟨t, e.symm⟩
    have hl2 : ((out.map adO).map V.ref).length ≤ sizeLine := by
      rw [List.length_map, hperm.length_eq, List.length_map]
      omega
    have rvo : Vals ((out.map adO).map V.ref) out := by
      have z := of_nts (out.map adO)
      rw [← eo] at z
      exact z
    refine wpAny_pure ⟨_, rfl, .ref h'.objs.size, upd H h'.objs.size (.lst ((out.map adO).map V.ref)), I1.laid (t' := tk) (fun b u e => ?_) (Nat.le_refl _)
      (show ObjOk X.prog X.w _ _ _ (.lst ((out.map adO).map V.ref)) from ⟨hl2, out, e', rvo, he'⟩), rfl, q _ ((out.map adO).map (tupOf H)) _ ?_ ?_ (keys_prd fun b hb => (hb0 b (hperm.mem_iff.mp hb)).1) (I1.hok.fresh (Nat.le_refl _))⟩
    · have hb : b < h'.objs.size := Heap.lt_size e
      rw [PyProof.Rows.sortedHeap_old (Nat.ne_of_lt hb) (by rw [size_push']; exact Nat.lt_succ_of_lt hb)]
      exact Heap.get?_push_of_some _ e
    · rw [← hmap]
      exact hperm.map _
    · rw [List.pairwise_map, List.pairwise_map]
      refine (List.Pairwise.imp_of_mem (fun {u v} hu hv huv => ?_) g1)
      have q1 : ∀ x ∈ out, (match x with | .ref b => tupOf H b | _ => []) = tupOf H (adO x) := fun x hx => by
        have hm' : x ∈ acc.toList := g2p.mem_iff.mp hx
        rw [ea] at hm'
        obtain ⟨t, _, e⟩ := List.mem_map.mp hm'
        rw [← e]
        rfl
      have h1 := q1 u hu
      have h2 := q1 v hv
      rw [← h1, ← h2]
      exact huv
end
end L2

/-! dicts from tuples of ints to ints -/
namespace Dx
open PySem PySem.Spec PyProof.Rows L2 Evl
abbrev kI (k : List Int) : List Key := k.map Sum.inl
theorem kI_inj : ∀ {a b : List Int}, kI a = kI b → a = b
  | [], [], _ => rfl
  | [], _ :: _, h => nomatch h
  | _ :: _, [], h => nomatch h
  | x :: a, y :: b, h => by
    have h1 := (List.cons.inj h).1
    have h2 := (List.cons.inj h).2
    rw [Sum.inl.inj h1, kI_inj h2]
abbrev Mp := List (List Int × Int)
def toK (m : Mp) : List (List Key × V) := m.map fun p => (kI p.1, V.int p.2)
def lkI : Mp → List Int → Option Int
  | [], _ => none
  | p :: m, k => if p.1 = k then some p.2 else lkI m k
def ptI : Mp → List Int → Int → Mp
  | [], k, v => [(k, v)]
  | p :: m, k, v => if p.1 = k then (p.1, v) :: m else p :: ptI m k v
theorem lk_toK (k : List Int) : ∀ m : Mp, valV (toK m) (kI k) = (lkI m k).map V.int
  | [] => rfl
  | p :: m => by
    show valV ((kI p.1, V.int p.2) :: toK m) (kI k) = _
    unfold lkI
    by_cases h : p.1 = k
    · rw [if_pos h, valV_pos (by rw [h])]
      rfl
    · rw [if_neg h, valV_neg (fun z => h (kI_inj z)), lk_toK k m]
theorem lkI_some_mem {k : List Int} {v : Int} : ∀ {m : Mp}, lkI m k = some v → (k, v) ∈ m
  | [], h => nomatch h
  | p :: m, h => by
    unfold lkI at h
    by_cases e : p.1 = k
    · rw [if_pos e] at h
      cases h
      subst e
      exact List.mem_cons_self
    · rw [if_neg e] at h
      exact List.mem_cons_of_mem _ (lkI_some_mem h)
theorem lkI_none {k : List Int} : ∀ {m : Mp}, lkI m k = none ↔ ∀ p ∈ m, p.1 ≠ k
  | [] => ⟨fun _ p hp => (nomatch hp), fun _ => rfl⟩
  | p :: m => by
    unfold lkI
    by_cases e : p.1 = k
    · rw [if_pos e]
      exact ⟨fun h => (nomatch h), fun h => absurd e (h p List.mem_cons_self)⟩
    · rw [if_neg e, lkI_none]
      exact ⟨fun h q hq => by
        rcases List.mem_cons.mp hq with z | z
        · rw [z]
          exact e
        · exact h q z, fun h q hq => h q (List.mem_cons_of_mem _ hq)⟩
theorem lk_pt (k j : List Int) (v : Int) : ∀ m : Mp, lkI (ptI m k v) j = if j = k then some v else lkI m j
  | [] => by
    show (if k = j then some v else none) = _
    by_cases h : j = k
    · rw [if_pos h, if_pos h.symm]
    · rw [if_neg h, if_neg fun z => h z.symm]
      rfl
  | p :: m => by
    unfold ptI
    by_cases e : p.1 = k
    · rw [if_pos e]
      show (if p.1 = j then some v else lkI m j) = if j = k then some v else (if p.1 = j then some p.2 else lkI m j)
      by_cases h : j = k
      · rw [if_pos h, if_pos (e.trans h.symm)]
      · rw [if_neg h, if_neg fun z => h (z.symm.trans e), if_neg fun z => h (z.symm.trans e)]
    · rw [if_neg e]
      show (if p.1 = j then some p.2 else lkI (ptI m k v) j) = if j = k then some v else (if p.1 = j then some p.2 else lkI m j)
      by_cases h : p.1 = j
      · rw [if_pos h, if_pos h, if_neg fun z => e (h.trans z)]
      · rw [if_neg h, if_neg h, lk_pt k j v m]
/-- keys stand once -/
def Nd (m : Mp) : Prop := (m.map (·.1)).Nodup
theorem pt_keys (k : List Int) (v : Int) : ∀ m : Mp, (ptI m k v).map (·.1) = if (lkI m k).isSome = true then m.map (·.1) else m.map (·.1) ++ [k]
  | [] => rfl
  | p :: m => by
    unfold ptI lkI
    by_cases e : p.1 = k
    · rw [if_pos e, if_pos e]
      rfl
    · rw [if_neg e, if_neg e, List.map_cons, pt_keys k v m]
      split <;> rfl
theorem put_toK {m : Mp} (hn : Nd m) (k : List Int) (v : Int) : putK (toK m) (kI k) (.int v) = toK (ptI m k v) := by
  unfold putK
  rw [valV_any, lk_toK, Option.isSome_map]
  induction m with
  | nil => rfl
  | cons p m ih =>
    have hn' : p.1 ∉ m.map (·.1) ∧ Nd m := List.nodup_cons.mp hn
    have ih := ih hn'.2
    unfold lkI ptI
    by_cases e : p.1 = k
    · rw [if_pos e, if_pos e, if_pos (show (some p.2).isSome = true from rfl)]
      show (fun kv : List Key × V => if kv.1 = kI k then (kv.1, V.int v) else kv) (kI p.1, V.int p.2) :: (toK m).map _ = (kI p.1, V.int v) :: toK m
      congr 1
      · show (if kI p.1 = kI k then (kI p.1, V.int v) else (kI p.1, V.int p.2)) = _
        rw [if_pos (by rw [e])]
      · have hid : ∀ q ∈ toK m, (if q.1 = kI k then (q.1, V.int v) else q) = q := fun q hq => by
          obtain ⟨q', hq', rfl⟩ := List.mem_map.mp hq
          rw [if_neg]
          intro z
          exact hn'.1 (List.mem_map.mpr ⟨q', hq', (kI_inj z).trans e.symm⟩)
        rw [List.map_congr_left hid, List.map_id']
    · rw [if_neg e, if_neg e]
      by_cases hs : (lkI m k).isSome = true
      · rw [if_pos hs] at ih ⊢
        show (if kI p.1 = kI k then (kI p.1, V.int v) else (kI p.1, V.int p.2)) :: (toK m).map _ = (kI p.1, V.int p.2) :: toK (ptI m k v)
        rw [if_neg fun z => e (kI_inj z), ih]
      · rw [if_neg hs] at ih ⊢
        show (kI p.1, V.int p.2) :: (toK m ++ _) = (kI p.1, V.int p.2) :: toK (ptI m k v)
        rw [ih]
theorem pt_nd {m : Mp} (hn : Nd m) (k : List Int) (v : Int) : Nd (ptI m k v) := by
  unfold Nd
  rw [pt_keys]
  split
  · exact hn
  · rename_i h
    have hnone : lkI m k = none := by
      cases hh : lkI m k with
      | none => rfl
      | some x => rw [hh] at h; exact absurd rfl h
    refine List.nodup_append.mpr ⟨hn, (List.nodup_cons.mpr ⟨List.not_mem_nil, List.nodup_nil⟩), fun a ha b hb => ?_⟩
    rw [List.mem_singleton.mp hb]
    obtain ⟨p, hp, rfl⟩ := List.mem_map.mp ha
    exact lkI_none.mp hnone p hp
/-! ### values -/
/-- a key: the tuple of these ints itself stands there -/
def KeyV (k : List Int) : PV := fun v B => ∃ a, v = .ref a ∧ B a = some (.tup (k.map V.int))
/-- a dict that stands -/
def DicV (m : Mp) : PV := fun v B => ∃ a, v = .ref a ∧ B a = some (.dT (toK m))
theorem upc_key {k : List Int} : Upc (KeyV k) := fun _ _ _ e ⟨a, h, g⟩ => ⟨a, h, e _ _ g⟩
theorem upc_dic {m : Mp} : Upc (DicV m) := fun _ _ _ e ⟨a, h, g⟩ => ⟨a, h, e _ _ g⟩
theorem kV_kI : ∀ k : List Int, (kI k).map kV = k.map V.int := L2.kV_inl
theorem dget {H : Hp} {a b : Addr} {m : Mp} {k : List Int} (h : H a = some (.dT (toK m))) (g : H b = some (.tup (k.map V.int))) : DGet H a (.ref b) ((lkI m k).map V.int) := by
  rw [← lk_toK]
  exact DGet.t h (by rw [kV_kI]; exact g)
section
variable {F : Fm} {σ : L2.St} {B : Hp} {td ty : TE} {m : Mp} {k : List Int} {d : Int}
theorem ev_dget2 (hd : EV F td σ B (DicV m)) (hk : EV F ty σ B (KeyV k)) : EV F (tDGet2 td ty (tC (.int d))) σ B (fun v _ => v = .int ((lkI m k).getD d)) := fun B1 e1 H j Q q =>
  hd B1 e1 H j _ fun v B2 H2 s2 j2 ⟨a, ha, g⟩ => ⟨a, ha, .inr ⟨_, .inl (j2.e _ _ g)⟩, hk B2 (e1.trans s2.bb) H2 j2 _ fun u B3 H3 s3 j3 ⟨b, hb, g3⟩ => by
    refine ⟨_, by rw [hb]; exact dget (j3.e _ _ (s3.bb _ _ g)) (j3.e _ _ g3), ?_⟩
    refine q _ B3 H3 (s2.trans s3) j3 ?_
    cases lkI m k <;> rfl⟩
theorem ev_din (hd : EV F td σ B (DicV m)) (hk : EV F ty σ B (KeyV k)) : EV F (tDIn ty td) σ B (fun v _ => v = .bl (lkI m k).isSome) := fun B1 e1 H j Q q =>
  hk B1 e1 H j _ fun u B2 H2 s2 j2 ⟨b, hb, g⟩ => hd B2 (e1.trans s2.bb) H2 j2 _ fun v B3 H3 s3 j3 ⟨a, ha, g3⟩ => by
    refine ⟨a, _, ha, by rw [hb]; exact dget (j3.e _ _ g3) (j3.e _ _ (s3.bb _ _ g)), ?_⟩
    rw [Option.isSome_map]
    exact q _ B3 H3 (s2.trans s3) j3 rfl
theorem ev_dnin (hd : EV F td σ B (DicV m)) (hk : EV F ty σ B (KeyV k)) : EV F (tDNotIn ty td) σ B (fun v _ => v = .bl (!(lkI m k).isSome)) := fun B1 e1 H j Q q =>
  hk B1 e1 H j _ fun u B2 H2 s2 j2 ⟨b, hb, g⟩ => hd B2 (e1.trans s2.bb) H2 j2 _ fun v B3 H3 s3 j3 ⟨a, ha, g3⟩ => by
    refine ⟨a, _, ha, by rw [hb]; exact dget (j3.e _ _ g3) (j3.e _ _ (s3.bb _ _ g)), ?_⟩
    rw [Option.isSome_map]
    exact q _ B3 H3 (s2.trans s3) j3 rfl
theorem ev_dget (hd : EV F td σ B (DicV m)) (hk : EV F ty σ B (KeyV k)) {n : Int} (hn : lkI m k = some n) : EV F (tDGet td ty) σ B (fun v _ => v = .int n) := fun B1 e1 H j Q q =>
  hd B1 e1 H j _ fun v B2 H2 s2 j2 ⟨a, ha, g⟩ => hk B2 (e1.trans s2.bb) H2 j2 _ fun u B3 H3 s3 j3 ⟨b, hb, g3⟩ => by
    have h := dget (j3.e _ _ (s3.bb _ _ g)) (j3.e _ _ g3)
    rw [hn] at h
    exact ⟨a, .int n, ha, by rw [hb]; exact h, q _ B3 H3 (s2.trans s3) j3 rfl⟩
end
/-- the ints of a tuple that is data: the tuple itself, where the module's tuples hold no ints -/
def noInts (K : PySem.W.Frag) : Bool := K.all fun p => match p.2.data with
  | .seq its _ => its.toList.all fun v => match v with | .int _ _ => false | _ => true
  | _ => true
theorem lookup_mem {K : PySem.W.Frag} {a : Addr} {o : Obj} : K.lookup a = some o → (a, o) ∈ K := by
  induction K with
  | nil => intro h; cases h
  | cons p r ih =>
    obtain ⟨b, x⟩ := p
    intro h
    rw [List.lookup_cons] at h
    split at h
    · rename_i e
      cases h
      rw [beq_iff_eq.mp e]
      exact List.mem_cons_self
    · exact List.mem_cons_of_mem _ (ih h)
theorem ddAll_ints {K : PySem.W.Frag} {H : Hp} : ∀ {k : List Int} {vs : List V}, DdAll K H vs (k.map .int) → vs = k.map V.int
  | [], _, h => by cases h; rfl
  | n :: k, _, h => by
    cases h with
    | cons a t => rw [dd_int a, ddAll_ints t]; rfl
theorem key_of {K : PySem.W.Frag} (hK : noInts K = true) {B : Hp} {v : V} {k : List Int} (hne : k ≠ []) (h : Dd K B v (.tuple (k.map .int))) : KeyV k v B := by
  obtain ⟨a, xs, rfl, h1, _, h3⟩ := dd_tupA h
  obtain rfl := ddAll_ints h3
  rcases h1 with h1 | ⟨o, its, n, hl, hc, hd, hz, hv⟩
  · exact ⟨a, rfl, h1⟩
  · exfalso
    have hm := List.all_eq_true.mp hK _ (lookup_mem hl)
    simp only [hd] at hm
    cases k with
    | nil => exact hne rfl
    | cons n k =>
      rw [List.map_cons] at hv
      generalize its.toList = l at hv hm
      cases hv with
      | @cons _ u _ us hr ht =>
        obtain ⟨t, rfl⟩ : ∃ t, u = Value.int n t := hr
        simp at hm
end Dx

/-! a dict of one's own that grows -/
namespace Dx
open PySem PySem.Spec PyProof.Rows L2 Evl
structure D1 (B0 H0 B H : Hp) (na : Addr) (m : Mp) : Prop where
  st : Step (fun _ => False) B0 H0 B H
  n0 : H0 na = none
  bn : B na = none
  hn : H na = some (.dT (toK m))
section
variable {B0 H0 B H B5 H5 : Hp} {na : Addr} {m : Mp} {σ : L2.St} {te td ty tv : TE} {t : TT} {tu tw tz : TS} {D : Ends} {i : Nat} {P : PV} {b : Bool} {n : Int} {k : List Int}
theorem D1.ok (d : D1 B0 H0 B H na m) : Ok Fm.pure B H := Ok.any d.st.bh
theorem D1.pass (d : D1 B0 H0 B H na m) (s : Step (fun _ => False) B H B5 H5) : D1 B0 H0 B5 H5 na m := ⟨d.st.trans s, d.n0, s.sep na d.bn ⟨_, d.hn, trivial⟩, s.ex _ _ d.hn⟩
theorem D1.set (d : D1 B0 H0 B H na m) (m' : Mp) : D1 B0 H0 B (upd H na (.dT (toK m'))) na m' := ⟨step_set d.st d.n0 d.bn, d.n0, d.bn, upd_same⟩
/-- the dict stands as data for a while -/
theorem D1.shut (d : D1 B0 H0 B H na m) : Ex B (upd B na (.dT (toK m))) ∧ Ok Fm.pure (upd B na (.dT (toK m))) H ∧ DicV m (.ref na) (upd B na (.dT (toK m))) := by
  refine ⟨Ex.new d.bn, Ok.any fun a o h => ?_, na, rfl, upd_same⟩
  by_cases e : a = na
  · subst e
    rw [upd_same] at h
    rw [d.hn]
    exact h
  · rw [upd_ne e] at h
    exact d.st.bh a o h
/-- heaps that grew behind a look -/
theorem D1.grown (d : D1 B0 H0 B H na m) (e : Ex H H5) : D1 B0 H0 B H5 na m :=
  ⟨d.st.trans ⟨Ex.refl B, fun a o h => e _ _ (d.st.bh a o h), fun a o _ h => e _ _ h, fun a h _ => h, (fun a hn => by
    cases hh : H a with
    | none => exact absurd hh hn
    | some o => rw [e _ _ hh]; exact fun z => nomatch z), fun a ⟨o, h, n⟩ => ⟨o, e _ _ h, n⟩⟩, d.n0, d.bn, e _ _ d.hn⟩
/-- x = {} -/
theorem qd_new (k0 : Ok Fm.pure B H) (q : ∀ na, D1 B H B (upd H na (.dT (toK []))) na [] → tz D (σ.set i (some (.ref na))) (upd H na (.dT (toK [])))) : tSeq (tAsg tDNewT (gName i)) tz D σ H :=
  fun na hna => q na ⟨step_set (Step.refl k0.e) hna (fresh_back k0.e hna), hna, fresh_back k0.e hna, upd_same⟩
/-- x = e, e looks at the dict and gives what needs no heap -/
theorem qd_look {W : V → Prop} (d : D1 B0 H0 B H na m) (h : EV Fm.pure te σ (upd B na (.dT (toK m))) (fun v _ => W v)) (q : ∀ v H5, D1 B0 H0 B H5 na m → W v → tz D (σ.set i (some v)) H5) : tSeq (tAsg te (gName i)) tz D σ H :=
  h _ (Ex.refl _) H d.shut.2.1 _ fun v B5 H5 s5 _ w => q v H5 (d.grown s5.ex) w
theorem sd_if (d : D1 B0 H0 B H na m) (h : ETt Fm.pure t σ (upd B na (.dT (toK m))) b) (h1 : b = true → ∀ H5, D1 B0 H0 B H5 na m → tu D σ H5) (h2 : b = false → ∀ H5, D1 B0 H0 B H5 na m → tw D σ H5) : tIfS t tu tw D σ H :=
  h _ (Ex.refl _) H d.shut.2.1 _ fun B5 H5 s5 _ => by
    cases b with
    | true =>
      show tu D σ H5
      exact h1 rfl H5 (d.grown s5.ex)
    | false =>
      show tw D σ H5
      exact h2 rfl H5 (d.grown s5.ex)
/-- x[k] = e -/
theorem sd_put (d : D1 B0 H0 B H na m) (hi : σ[i]? = some (some (.ref na))) (hv : EV Fm.pure tv σ B (fun v _ => v = .int n)) (hk : EV Fm.pure ty σ B (KeyV k)) (nd : Nd m) (hl : m.length < 16777216) (q : ∀ B5 H5, D1 B0 H0 B5 H5 na (ptI m k n) → Ex B B5 → D.nx σ H5) : sDPut (tVar i) ty tv D σ H :=
  hv B (Ex.refl B) H d.ok _ fun v B1 H1 s1 j1 ev => ⟨.ref na, hi, hk B1 s1.bb H1 j1 _ fun u B2 H2 s2 j2 ⟨a, eu, g⟩ => by
    have d2 := d.pass (s1.trans s2)
    subst ev eu
    refine ⟨na, upd H2 na (.dT (putK (toK m) (kI k) (.int n))), rfl, DPut.t d2.hn (by rw [kV_kI]; exact j2.e _ _ g) ?_, ?_⟩
    · rw [sizeLine_eq]
      show (List.map _ m).length < _
      rw [List.length_map]
      exact hl
    · rw [put_toK nd]
      exact q B2 _ (d2.set _) (s1.bb.trans s2.bb)⟩
end
end Dx

/-! tuples of ints: at least -/
namespace Dx
open PySem PySem.Spec PyProof.Rows L2 Evl
def geI : List Int → List Int → Bool
  | _, [] => true
  | [], _ :: _ => false
  | x :: xs, y :: ys => if x = y then geI xs ys else decide (y ≤ x)
def rGeT (K : PySem.W.Frag) : R2 := fun x y H Q => ∃ (a b : Addr) (ns ms : List Int), x = .ref a ∧ y = .ref b ∧ SqT K H a (ns.map V.int) ∧ SqT K H b (ms.map V.int) ∧ Q (.bl (geI ns ms)) H
theorem lex_sh {e r e' r' : Nat → Bool} {z : Bool} : ∀ (k i : Nat), (∀ j, e (j + 1) = e' j) → (∀ j, r (j + 1) = r' j) → Ob.lexAt e r z (i + 1) k = Ob.lexAt e' r' z i k
  | 0, _, _, _ => rfl
  | k + 1, i, h, g => by rw [Ob.lexAt_succ, Ob.lexAt_succ, h, g, lex_sh k (i + 1) h g]
theorem lex_ge : ∀ (ns ms : List Int), Ob.lexAt (fun j => decide (ns.getD j 0 = ms.getD j 0)) (fun j => decide (ms.getD j 0 ≤ ns.getD j 0)) (decide (ns.length ≥ ms.length)) 0 (min ns.length ms.length) = geI ns ms
  | ns, [] => by
    rw [show min ns.length ([] : List Int).length = 0 from Nat.min_zero _, Ob.lexAt_zero]
    cases ns <;> rfl
  | [], m :: ms => by
    rw [show min ([] : List Int).length (m :: ms).length = 0 from Nat.zero_min _, Ob.lexAt_zero]
    rfl
  | n :: ns, m :: ms => by
    rw [show min (n :: ns).length (m :: ms).length = min ns.length ms.length + 1 by simp only [List.length_cons]; omega, Ob.lexAt_succ]
    rw [lex_sh (e' := fun j => decide (ns.getD j 0 = ms.getD j 0)) (r' := fun j => decide (ms.getD j 0 ≤ ns.getD j 0)) _ 0 (fun _ => rfl) (fun _ => rfl)]
    rw [show decide ((n :: ns).length ≥ (m :: ms).length) = decide (ns.length ≥ ms.length) from decide_eq_decide.mpr (by simp only [List.length_cons]; omega), lex_ge ns ms]
    show (if decide (n = m) = true then geI ns ms else decide (m ≤ n)) = geI (n :: ns) (m :: ms)
    by_cases e : n = m
    · rw [if_pos (decide_eq_true e)]
      show _ = if n = m then geI ns ms else decide (m ≤ n)
      rw [if_pos e]
    · rw [if_neg (by rw [decide_eq_false e]; exact Bool.false_ne_true)]
      show _ = if n = m then geI ns ms else decide (m ≤ n)
      rw [if_neg e]
theorem ints_laid : ∀ {ns : List Int} {its : List Value}, Vals (ns.map V.int) its → its.length = ns.length ∧ ∀ j (g : j < its.length), ∃ t, its[j] = .int (ns.getD j 0) t
  | ns, its, h => by
    have i : IntsAre its ns := Vals.ints h
    exact ⟨i.length, fun j g => PyProof.Rows.IntsAre.int_at i _ _ (by simp [g])⟩
theorem op_geT {X : Cx} (hu : X.A.units < cLine) : OpR X (compareOp .GtE) (rGeT X.K) := by
  rintro pins s σ H x y v u Q I e1 e2 ⟨a, b, ns, ms, rfl, rfl, ha, hb, q⟩
  cases (show v = Value.ref a from e1)
  cases (show u = Value.ref b from e2)
  obtain ⟨as, ra, pa, _⟩ := I.tuple ha
  obtain ⟨bs, rb, pb, _⟩ := I.tuple hb
  obtain ⟨la, fa⟩ := ints_laid ra
  obtain ⟨lb, fb⟩ := ints_laid rb
  rw [← lex_ge] at q
  have R := Ob.RcOp.tuples_ge (A := X.A) (s := s) (e := fun j => decide (ns.getD j 0 = ms.getD j 0)) (r := fun j => decide (ms.getD j 0 ≤ ns.getD j 0)) pa pb hu
    (fun j g g' => by
      obtain ⟨t, e⟩ := fa j (by simpa using g)
      obtain ⟨t', e'⟩ := fb j (by simpa using g')
      simp only [List.getElem_toArray, e, e']
      have z := SeqAt.EqAt.int_int (A := X.A.in1) (s := s) (ns.getD j 0) t (ms.getD j 0) t'
      rwa [show (ns.getD j 0 == ms.getD j 0) = decide (ns.getD j 0 = ms.getD j 0) from rfl] at z)
    fun j g g' _ => by
      obtain ⟨t, e⟩ := fa j (by simpa using g)
      obtain ⟨t', e'⟩ := fb j (by simpa using g')
      simp only [List.getElem_toArray, e, e']
      exact Ob.RcOp.ge_int _ _ t t'
  rw [List.size_toArray, List.size_toArray, la, lb] at R
  exact R X.prog X.w X.xe (EP X pins σ Q) ⟨.bl _, H, I, rfl, q⟩
/-! less -/
def ltI : List Int → List Int → Bool
  | _, [] => false
  | [], _ :: _ => true
  | x :: xs, y :: ys => if x = y then ltI xs ys else decide (x < y)
theorem ge_lt : ∀ (ns ms : List Int), geI ns ms = !ltI ns ms
  | [], [] => rfl
  | _ :: _, [] => rfl
  | [], _ :: _ => rfl
  | n :: ns, m :: ms => by
    show (if n = m then geI ns ms else decide (m ≤ n)) = !(if n = m then ltI ns ms else decide (n < m))
    by_cases e : n = m
    · rw [if_pos e, if_pos e, ge_lt ns ms]
    · rw [if_neg e, if_neg e]
      by_cases g : n < m
      · rw [decide_eq_true g, decide_eq_false (by omega)]
        rfl
      · rw [decide_eq_false g, decide_eq_true (by omega)]
        rfl
def rLtT (K : PySem.W.Frag) : R2 := fun x y H Q => ∃ (a b : Addr) (ns ms : List Int), x = .ref a ∧ y = .ref b ∧ SqT K H a (ns.map V.int) ∧ SqT K H b (ms.map V.int) ∧ Q (.bl (ltI ns ms)) H
theorem lex_lt : ∀ (ns ms : List Int), Ob.lexAt (fun j => decide (ns.getD j 0 = ms.getD j 0)) (fun j => decide (ns.getD j 0 < ms.getD j 0)) (decide (ns.length < ms.length)) 0 (min ns.length ms.length) = ltI ns ms
  | ns, [] => by
    rw [show min ns.length ([] : List Int).length = 0 from Nat.min_zero _, Ob.lexAt_zero]
    cases ns <;> rfl
  | [], m :: ms => by
    rw [show min ([] : List Int).length (m :: ms).length = 0 from Nat.zero_min _, Ob.lexAt_zero, decide_eq_true (by simp)]
    rfl
  | n :: ns, m :: ms => by
    rw [show min (n :: ns).length (m :: ms).length = min ns.length ms.length + 1 by simp only [List.length_cons]; omega, Ob.lexAt_succ]
    rw [lex_sh (e' := fun j => decide (ns.getD j 0 = ms.getD j 0)) (r' := fun j => decide (ns.getD j 0 < ms.getD j 0)) _ 0 (fun _ => rfl) (fun _ => rfl)]
    rw [show decide ((n :: ns).length < (m :: ms).length) = decide (ns.length < ms.length) from decide_eq_decide.mpr (by simp only [List.length_cons]; omega), lex_lt ns ms]
    show (if decide (n = m) = true then ltI ns ms else decide (n < m)) = if n = m then ltI ns ms else decide (n < m)
    by_cases e : n = m
    · rw [if_pos (decide_eq_true e), if_pos e]
    · rw [if_neg (by rw [decide_eq_false e]; exact Bool.false_ne_true), if_neg e]
theorem op_ltT {X : Cx} (hu : X.A.units < cLine) : OpR X (compareOp .Lt) (rLtT X.K) := by
  intro pins s σ H x y v u Q I e1 e2 h
  obtain ⟨a, b, ns, ms, rfl, rfl, ha, hb, q⟩ := h
  cases (show v = Value.ref a from e1)
  cases (show u = Value.ref b from e2)
  obtain ⟨as, ra, pa, _⟩ := I.tuple ha
  obtain ⟨bs, rb, pb, _⟩ := I.tuple hb
  obtain ⟨la, fa⟩ := ints_laid ra
  obtain ⟨lb, fb⟩ := ints_laid rb
  rw [← lex_lt] at q
  have R := Ob.RcOp.tuples_lt (A := X.A) (s := s) (e := fun j => decide (ns.getD j 0 = ms.getD j 0)) (r := fun j => decide (ns.getD j 0 < ms.getD j 0)) pa pb hu
    (fun j g g' => by
      obtain ⟨t, e⟩ := fa j (by simpa using g)
      obtain ⟨t', e'⟩ := fb j (by simpa using g')
      simp only [List.getElem_toArray, e, e']
      have z := SeqAt.EqAt.int_int (A := X.A.in1) (s := s) (ns.getD j 0) t (ms.getD j 0) t'
      rwa [show (ns.getD j 0 == ms.getD j 0) = decide (ns.getD j 0 = ms.getD j 0) from rfl] at z)
    fun j g g' _ => by
      obtain ⟨t, e⟩ := fa j (by simpa using g)
      obtain ⟨t', e'⟩ := fb j (by simpa using g')
      simp only [List.getElem_toArray, e, e']
      exact Ob.RcOp.lt_int _ _ t t'
  rw [List.size_toArray, List.size_toArray, la, lb] at R
  exact R X.prog X.w X.xe (EP X pins σ Q) ⟨.bl _, H, I, rfl, q⟩
theorem op_ltTK {X : Cx} (K : PySem.W.Frag) (hu : X.A.units < cLine) (hK : X.K = K := by rfl) : OpR X (compareOp .Lt) (rLtT K) := by subst hK; exact op_ltT hu
theorem op_geTK {X : Cx} (K : PySem.W.Frag) (hu : X.A.units < cLine) (hK : X.K = K := by rfl) : OpR X (compareOp .GtE) (rGeT K) := by subst hK; exact op_geT hu
theorem sq_ints {K : PySem.W.Frag} {H : Hp} {v : V} {ns : List Int} (h : Dd K H v (.tuple (ns.map .int))) : ∃ a, v = .ref a ∧ SqT K H a (ns.map V.int) := by
  obtain ⟨a, xs, rfl, h1, _, g1⟩ := dd_tup h
  obtain rfl := ddAll_ints g1
  exact ⟨a, rfl, h1⟩
theorem rd_ltT {F : Fm} {K : PySem.W.Frag} {B : Hp} {ns ms : List Int} : RD2 F K (rLtT K) B (.tuple (ns.map .int)) (.tuple (ms.map .int)) (.bool (ltI ns ms)) := rd_of fun H u v hu hv => by
  obtain ⟨a, rfl, ha⟩ := sq_ints hu
  obtain ⟨b, rfl, hb⟩ := sq_ints hv
  exact ⟨.bl _, fun _ => .bl _, fun Q q => ⟨a, b, ns, ms, rfl, rfl, ha, hb, q⟩⟩
theorem rd_geT {F : Fm} {K : PySem.W.Frag} {B : Hp} {ns ms : List Int} : RD2 F K (rGeT K) B (.tuple (ns.map .int)) (.tuple (ms.map .int)) (.bool (geI ns ms)) := rd_of fun H u v hu hv => by
  obtain ⟨a, rfl, ha⟩ := sq_ints hu
  obtain ⟨b, rfl, hb⟩ := sq_ints hv
  exact ⟨.bl _, fun _ => .bl _, fun Q q => ⟨a, b, ns, ms, rfl, rfl, ha, hb, q⟩⟩
end Dx

/-! list comprehensions with any number of clauses -/
namespace Cn
open PySem PySem.Spec PyProof.Rows L2
abbrev EvP := Value → Shared → Prop
/-- the tests of a clause -/
def tests (ifs : List Expr) (env : Env) : Sem Bool := forIn ifs true fun c r => if r = true then (do let ok ← isTrue c env (eval c env); pure (ForInStep.yield ok)) else pure (ForInStep.yield r)
section
variable (prog : Program) (w : World) (A : Around) (env : Env)
/-- a turn of a clause: the next item, its store, the tests; then `body` or `skip` -/
def CTurn (it : Value) (t : Expr) (ifs : List Expr) (E : EvP) (stop skip body : Shared → Prop) (s : Shared) : Prop := wpAny (model prog w) A (pyNext it) (fun r s₁ => match r with
  | none => stop s₁
  | some v => wpAny (model prog w) A (letOwnedTupleGo t it v) (fun _ s₂ => wpAny (model prog w) A (assign t env v) (fun _ s₃ => wpAny (model prog w) A (tests ifs env) (fun ok s₄ => if ok = true then body s₄ else skip s₄) E s₃) E s₂) E s₁) E s
/-- the body of a clause that has another behind it -/
def BOut (e : Expr) (l : Nat) (acc : Value) (i1 : Expr) (E : EvP) (P : Shared → Prop) (s : Shared) : Prop := wpAny (model prog w) A (eval i1 env) (fun x s₅ => wpAny (model prog w) A (pyIter x) (fun it1 s₆ => codeAny (model prog w) A (.compStart e l it1 acc env) (fun r s' => match r with
  | .ok _ => P s'
  | .error _ => False) s₆) E s₅) E s
/-- that of the last one -/
def BIn (elt : Expr) (acc : Value) (E : EvP) (P : Shared → Prop) (s : Shared) : Prop := wpAny (model prog w) A (eval elt env) (fun x s₅ => wpAny (model prog w) A (call (.builtin "list.append") [acc, x]) (fun _ s₆ => P s₆) E s₅) E s
end
section
variable {prog : Program} {w : World} {A : Around} {R : Result → Shared → Prop} {s : Shared} {elt t0 i0 t1 i1 : Expr} {ifs0 ifs1 : List Expr} {gens : List Comprehension} {l : Nat} {scope : Scope} {pos : Pos} {it acc : Value} {env : Env}
theorem cloop_out (h0 : gens[l]? = some ⟨t0, i0, ifs0, 0⟩) (h1 : gens[l + 1]? = some ⟨t1, i1, ifs1, 0⟩) (hs : ∀ x, foldedSetIterable i1 env x = pure x) (I : Nat → Shared → Prop)
    (turn : ∀ n s, I n s → CTurn prog w A env it t0 ifs0 (notedBy (model prog w) A env fun e s' => R (.error e) s') (fun s₁ => R (.ok .next) s₁) (fun s₄ => ∃ m, m < n ∧ I m s₄) (BOut prog w A env (.ListComp elt gens scope pos) (l + 1) acc i1 (notedBy (model prog w) A env fun e s' => R (.error e) s') fun s' => ∃ m, m < n ∧ I m s') s)
    (n : Nat) (h : I n s) : codeAny (model prog w) A (.compLoop (.ListComp elt gens scope pos) l it acc env) R s := by
  refine codeAny_loop rfl I (fun n s hI => ?_) n h
  show wpAny _ A (PySem.Sem.onRaise (compTurn (.ListComp elt gens scope pos) l it acc env) _) _ _ s
  refine wpAny_noted ?_
  have hT := turn n s hI
  unfold CTurn at hT
  unfold compTurn
  simp only [h0, h1]
  refine wpAny_bind (wpAny_standAt (wpAny_bind (wpAny_mono hT (fun r s₁ q₁ => ?_) fun _ _ z => z)))
  cases r with
  | none => exact wpAny_pure q₁
  | some v =>
    refine wpAny_bind (wpAny_mono q₁ (fun _ s₂ q₂ => wpAny_bind (wpAny_mono q₂ (fun _ s₃ q₃ => wpAny_bind (wpAny_mono q₃ (fun ok s₄ q₄ => ?_) fun _ _ z => z)) fun _ _ z => z)) fun _ _ z => z)
    cases ok with
    | false => exact wpAny_pure ⟨rfl, q₄⟩
    | true =>
      refine wpAny_bind (wpAny_mono q₄ (fun x s₅ q₅ => wpAny_bind (wpAny_standAt (wpAny_bind (wpAny_of_eq (hs x) (wpAny_bind (wpAny_holding (wpAny_mono q₅ (fun it1 s₆ q₆ => wpAny_bind (wpAny_runOwn ?_)) fun _ _ z => z))))))) fun _ _ z => z)
      rw [Around.mark_none]
      refine codeAny_mono q₆ fun r s' hr => ?_
      cases r with
      | error e => exact hr.elim
      | ok f => first | exact wpAny_pure ⟨rfl, hr⟩ | exact wpAny_bind (wpAny_pure (wpAny_pure ⟨rfl, hr⟩))
theorem cloop_in (h0 : gens[l]? = some ⟨t0, i0, ifs0, 0⟩) (h1 : gens[l + 1]? = none) (I : Nat → Shared → Prop)
    (turn : ∀ n s, I n s → CTurn prog w A env it t0 ifs0 (notedBy (model prog w) A env fun e s' => R (.error e) s') (fun s₁ => R (.ok .next) s₁) (fun s₄ => ∃ m, m < n ∧ I m s₄) (BIn prog w A env elt acc (notedBy (model prog w) A env fun e s' => R (.error e) s') fun s' => ∃ m, m < n ∧ I m s') s)
    (n : Nat) (h : I n s) : codeAny (model prog w) A (.compLoop (.ListComp elt gens scope pos) l it acc env) R s := by
  refine codeAny_loop rfl I (fun n s hI => ?_) n h
  show wpAny _ A (PySem.Sem.onRaise (compTurn (.ListComp elt gens scope pos) l it acc env) _) _ _ s
  refine wpAny_noted ?_
  have hT := turn n s hI
  unfold CTurn at hT
  unfold compTurn
  simp only [h0, h1]
  refine wpAny_bind (wpAny_standAt (wpAny_bind (wpAny_mono hT (fun r s₁ q₁ => ?_) fun _ _ z => z)))
  cases r with
  | none => exact wpAny_pure q₁
  | some v =>
    refine wpAny_bind (wpAny_mono q₁ (fun _ s₂ q₂ => wpAny_bind (wpAny_mono q₂ (fun _ s₃ q₃ => wpAny_bind (wpAny_mono q₃ (fun ok s₄ q₄ => ?_) fun _ _ z => z)) fun _ _ z => z)) fun _ _ z => z)
    cases ok with
    | false => exact wpAny_pure ⟨rfl, q₄⟩
    | true => exact wpAny_bind (wpAny_bind (wpAny_mono q₄ (fun x s₅ q₅ => wpAny_bind (wpAny_mono q₅ (fun _ s₆ q₆ => wpAny_pure (wpAny_pure ⟨rfl, q₆⟩)) fun _ _ z => z)) fun _ _ z => z))
theorem cstart_ok (hl : gens[l]? = some ⟨t0, i0, ifs0, 0⟩) (q0 : codeAny (model prog w) A (.compLoop (.ListComp elt gens scope pos) l it acc env) R s)
    (q : wpAny (model prog w) A (pyIter it) (fun it' s' => codeAny (model prog w) A (.compLoop (.ListComp elt gens scope pos) l it' acc env) R s') (notedBy (model prog w) A env fun x s' => R (.error x) s') s) :
    codeAny (model prog w) A (.compStart (.ListComp elt gens scope pos) l it acc env) R s := by
  refine codeAny_of_tree ?_
  show wpAny _ _ (PySem.Sem.onRaise (compStart (.ListComp elt gens scope pos) l it acc env) _) _ _ s
  refine wpAny_notedAt ?_
  unfold compStart
  simp only [show (clausesOf (.ListComp elt gens scope pos))[l]? = some ⟨t0, i0, ifs0, 0⟩ from hl]
  show wpAny _ _ (ask >>= _) _ _ s
  refine wpAny_bind (wpAny_askSetting (wpAny_ite ?_))
  split
  · first | exact wpAny_pure ⟨rfl, q0⟩ | exact wpAny_bind (wpAny_pure (wpAny_pure ⟨rfl, q0⟩))
  · refine wpAny_bind (wpAny_rule ?_)
    first
      | exact wpAny_bind (wpAny_standAt (wpAny_bind (wpAny_mono q (fun it' s' z => wpAny_pure ⟨rfl, z⟩) fun _ _ z => z)))
      | (show wpAny _ _ (standAt i0.pos >>= _) _ _ s; exact wpAny_bind (wpAny_standAt (wpAny_bind (wpAny_mono q (fun it' s' z => wpAny_pure ⟨rfl, z⟩) fun _ _ z => z))))
end
section
variable {prog : Program} {w : World} {A : Around} {R : Result → Shared → Prop} {s : Shared} {elt t0 i0 : Expr} {ifs0 : List Expr} {gens : List Comprehension} {l : Nat} {scope : Scope} {pos : Pos} {it acc : Value} {env : Env} {E : EvP} {stop skip b1 b2 : Shared → Prop}
theorem CTurn.mono (h : CTurn prog w A env it t0 ifs0 E stop skip b1 s) (i : ∀ s, b1 s → b2 s) : CTurn prog w A env it t0 ifs0 E stop skip b2 s := by
  unfold CTurn at h ⊢
  refine wpAny_mono h (fun r s₁ q₁ => ?_) fun _ _ z => z
  cases r with
  | none => exact q₁
  | some v => exact wpAny_mono q₁ (fun _ s₂ q₂ => wpAny_mono q₂ (fun _ s₃ q₃ => wpAny_mono q₃ (fun ok s₄ q₄ => by cases ok <;> first | exact q₄ | exact i _ q₄) fun _ _ z => z) fun _ _ z => z) fun _ _ z => z
/-- what stands behind the clause l -/
def Nxt (gens : List Comprehension) (env : Env) (l : Nat) : Prop := gens[l]? = none ∨ ∃ t1 i1 ifs1, gens[l]? = some ⟨t1, i1, ifs1, 0⟩ ∧ ∀ x, foldedSetIterable i1 env x = pure x
def Bdy (prog : Program) (w : World) (A : Around) (env : Env) (elt : Expr) (gens : List Comprehension) (scope : Scope) (pos : Pos) (l : Nat) (acc : Value) (E : EvP) (P : Shared → Prop) (s : Shared) : Prop :=
  (gens[l]? = none → BIn prog w A env elt acc E P s) ∧ ∀ t1 i1 ifs1, gens[l]? = some ⟨t1, i1, ifs1, 0⟩ → BOut prog w A env (.ListComp elt gens scope pos) l acc i1 E P s
theorem cloop_any (h0 : gens[l]? = some ⟨t0, i0, ifs0, 0⟩) (hn : Nxt gens env (l + 1)) (I : Nat → Shared → Prop)
    (turn : ∀ n s, I n s → CTurn prog w A env it t0 ifs0 (notedBy (model prog w) A env fun e s' => R (.error e) s') (fun s₁ => R (.ok .next) s₁) (fun s₄ => ∃ m, m < n ∧ I m s₄) (Bdy prog w A env elt gens scope pos (l + 1) acc (notedBy (model prog w) A env fun e s' => R (.error e) s') fun s' => ∃ m, m < n ∧ I m s') s)
    (n : Nat) (h : I n s) : codeAny (model prog w) A (.compLoop (.ListComp elt gens scope pos) l it acc env) R s := by
  rcases hn with h1 | ⟨t1, i1, ifs1, h1, hf⟩
  · exact cloop_in h0 h1 I (fun n s hI => (turn n s hI).mono fun s q => q.1 h1) n h
  · exact cloop_out h0 h1 hf I (fun n s hI => (turn n s hI).mono fun s q => q.2 _ _ _ h1) n h
end
abbrev Clz := TI × TG × TT × List Nat
def topV : List Clz → List Nat
  | [] => []
  | (_, _, _, vs) :: _ => vs
inductive Lv (Y : Cx) (gens : List Comprehension) : Nat → List Clz → Prop
  | nil {l : Nat} : gens[l]? = none → Lv Y gens l []
  | cons {l : Nat} {t i : Expr} {ifs : List Expr} {wi : TI} {g : TG} {tt : TT} {vs : List Nat} {r : List Clz} (h0 : gens[l]? = some ⟨t, i, ifs, 0⟩) (hp : PI Y t i wi) (hg : PG Y t g) (ht : PTs Y ifs tt) (hf : ∀ x, foldedSetIterable i Y.env x = pure x) (hv : ∀ i ∈ topV r, i ∈ vs) (hr : Lv Y gens (l + 1) r) : Lv Y gens l ((wi, g, tt, vs) :: r)
theorem Lv.nxt {Y : Cx} {gens : List Comprehension} {l : Nat} {r : List Clz} (h : Lv Y gens l r) : Nxt gens Y.env l := by
  cases h with
  | nil h => exact .inl h
  | cons h0 _ _ _ hf _ _ => exact .inr ⟨_, _, _, h0, hf⟩
/-- the loops of the clauses r, D the list that grows; Nx: what is reached when they are through -/
def lcIn (D : Addr) (te : TE) : List Clz → L2.St → Hp → (Hp → Prop) → Prop
  | [], σ, H, Nx => te σ H fun y H' => ∃ acc, H' D = some (.lst acc) ∧ acc.length < sizeLine ∧ Nx (upd H' D (.lst (acc ++ [y])))
  | (wi, g, tt, vs) :: r, σ, H, Nx => wi σ H fun J H1 => ∃ W : Nat → Nat → Hp → Prop, (∃ m, W 0 m H1) ∧ ∀ i m H, W i m H → (J.stop i H ∧ Nx H) ∨ (J.go i H ∧ ∃ N2 : Hp → Prop, (∀ H', N2 H' → ∃ m', m' < m ∧ W (i + 1) m' H') ∧
      ∀ x H', J.yld i H x H' → g x (wipe σ vs) H' fun σ2 H2 => wipe σ2 vs = wipe σ vs ∧ tt σ2 H2 fun b H3 => if b = true then lcIn D te r σ2 H3 N2 else N2 H3)
section
variable {Y : Cx} {elt : Expr} {gens : List Comprehension} {scope : Scope} {pos : Pos} {te : TE} {D : Addr}
theorem body_ok (hcal : Y.calm = true) (hxe : Y.xe = fun _ _ => False) (he : PE Y elt te) {l : Nat} {r : List Clz} (h : Lv Y gens l r) : ∀ (pins : List (Addr × Obj)) (σ : L2.St) (H : Hp) (s : Shared) (Nx : Hp → Prop) (P : Shared → Prop) (E : EvP), Inv Y pins σ H s → lcIn D te r σ H Nx →
    (∀ σ' H' s', Inv Y pins σ' H' s' → σ.length = σ'.length → (∀ (j : Nat) v, (wipe σ (topV r))[j]? = some (some v) → σ'[j]? = some (some v)) → Nx H' → P s') → Bdy Y.prog Y.w Y.A Y.env elt gens scope pos l (.ref D) E P s := by
  induction h with
  | nil hl =>
    intro pins σ H s Nx P E I q fin
    refine ⟨fun _ => ?_, fun _ _ _ z => (by rw [hl] at z; cases z)⟩
    unfold BIn
    have run := he.run pins s σ H _ I q
    rw [hxe] at run
    refine thnF run fun v s1 hEP => ?_
    obtain ⟨y, H1, I1, r1, acc, hD, hz, nx⟩ := hEP
    exact app_ok I1 hD hz r1 fun s2 I2 => fin σ _ s2 I2 rfl (fun j v e => e) nx
  | @cons l t i ifs wi g tt vs r h0 hp hg ht hf hv hr ih =>
    intro pins σ H s Nx P E I q fin
    refine ⟨fun z => (by rw [h0] at z; cases z), fun t1 i1 ifs1 z => ?_⟩
    have z' := h0.symm.trans z
    cases z'
    unfold BOut
    have run := hp.run pins s σ H _ I q
    rw [hxe] at run
    refine thnF run fun xv s1 hx => thnF hx fun itv s2 h2 => ?_
    obtain ⟨it, fp, tn, J, H2, e, I2, T, st2, f2, W, ⟨m0, w0⟩, turn⟩ := h2
    subst e
    have stat : ∀ {H' : Hp}, (∀ b ∈ fp, H' b = none) → ∀ b ∈ fp, FpOk Y pins H' b := fun hn b hb => ⟨hn b hb, (f2 b hb).2⟩
    have loop : codeAny (model Y.prog Y.w) Y.A (.compLoop (.ListComp elt gens scope pos) l (.ref it) (.ref D) Y.env) (fun r s' => match r with
        | .ok _ => P s'
        | .error _ => False) s2 := by
      refine cloop_any h0 hr.nxt (fun k s' => ∃ j H', Inv Y pins (wipe σ vs) H' s' ∧ tn j s'.heap ∧ (∀ b ∈ fp, H' b = none) ∧ W j k H') ?_ m0 ⟨0, H2, I2.weak (wipe_length _ _) (fun j v e => (wipe_some e).1), st2, fun b hb => (f2 b hb).1, w0⟩
      rintro k s3 ⟨j, H3, I3, st3, n3, w3⟩
      unfold CTurn
      rcases turn j k H3 w3 with ⟨hstop, nx⟩ | ⟨hgo, N2, hN2, step⟩
      · refine thnF (T.done Y rfl rfl rfl hcal j pins s3 (wipe σ vs) H3 (fun _ _ => False) I3 (stat n3) st3 hstop) fun r' s4 ⟨e4, I4⟩ => ?_
        subst e4
        exact fin _ _ _ I4 (wipe_length σ vs).symm (fun j v e => e) nx
      · refine thnF (T.item Y rfl rfl rfl hcal j pins s3 (wipe σ vs) H3 (fun _ _ => False) I3 (stat n3) st3 hgo) fun r' s4 ⟨u, e4, h4⟩ => ?_
        subst e4
        refine thnF h4 fun _ s5 ⟨x, H5, I5, r5, y5, st5, n5⟩ => ?_
        have I5' := I5.pinned (stat n5) (T.obj _ _ st5)
        have rg := hg.run (pins ++ pinsAt fp s5.heap) s5 (wipe σ vs) H5 x u _ I5' r5 (step x H5 y5)
        rw [hxe] at rg
        refine thnF rg fun _ s6 ⟨σ6, H6, I6, hw6, q6⟩ => ?_
        have rt := ht.run (pins ++ pinsAt fp s5.heap) s6 σ6 H6 _ I6 q6
        rw [hxe] at rt
        refine thnF rt fun b s7 ⟨H7, I7, q7⟩ => ?_
        have back : ∀ {σ' : L2.St} {H' : Hp} {s' : Shared}, Inv Y (pins ++ pinsAt fp s5.heap) σ' H' s' → σ6.length = σ'.length → (∀ (j : Nat) v, (wipe σ6 (topV r))[j]? = some (some v) → σ'[j]? = some (some v)) → N2 H' → ∃ m, m < k ∧ ∃ j H', Inv Y pins (wipe σ vs) H' s' ∧ tn j s'.heap ∧ (∀ b ∈ fp, H' b = none) ∧ W j m H' := by
          intro σ' H' s' I' hl hk nx
          obtain ⟨m', hm, w'⟩ := hN2 H' nx
          have pin : ∀ b ∈ fp, ∀ o, s5.heap.get? b = some o → s'.heap.get? b = some o ∧ H' b = none := fun b hb o e =>
            have z := I'.pin (b, o) (List.mem_append_right _ (List.mem_append_right _ (mem_pinsAt hb e)))
            ⟨z.1, z.2.1⟩
          refine ⟨m', hm, j + 1, H', I'.unpinned.weak ?_ (fun j v e => ?_), T.keep _ _ _ st5 fun b hb o e => (pin b hb o e).1, fun b hb => ?_, w'⟩
          · rw [← hl, ← hw6, wipe_length]
          · rw [← hw6] at e
            obtain ⟨e1, e2⟩ := wipe_some e
            refine hk j v ?_
            rw [wipe_out fun z => e2 (hv j z)]
            exact e1
          · obtain ⟨o, e, _⟩ := T.obj _ _ st5 b hb
            exact (pin b hb o e).2
        cases b with
        | false => exact back I7 rfl (fun j v e => (wipe_some e).1) (by simpa using q7)
        | true => exact ih (pins ++ pinsAt fp s5.heap) σ6 H7 s7 N2 _ _ I7 (by simpa using q7) fun σ' H' s' I' hl hk nx => back I' hl hk nx
    exact cstart_ok h0 loop (T.self Y.A 0 _ _ _ st2 loop)
end
/-- [elt for tg in iter if .. (the clauses r)] -/
def tLcN (wi : TI) (g : TG) (tt : TT) (r : List Clz) (te : TE) (vs : List Nat) : TE := fun σ H Q => wi σ H fun J H1 => ∀ D, H1 D = none → ∃ W : Nat → Nat → Hp → Prop, (∃ m, W 0 m (upd H1 D (.lst []))) ∧ ∀ i m H, W i m H → (J.stop i H ∧ Q (.ref D) H) ∨ (J.go i H ∧ ∃ N2 : Hp → Prop, (∀ H', N2 H' → ∃ m', m' < m ∧ W (i + 1) m' H') ∧
  ∀ x H', J.yld i H x H' → g x (wipe σ vs) H' fun σ2 H2 => wipe σ2 vs = wipe σ vs ∧ tt σ2 H2 fun b H3 => if b = true then lcIn D te r σ2 H3 N2 else N2 H3)
section
variable {X : Cx}
abbrev AtBlk (X : Cx) (scope : Scope) (C : Cx → Prop) : Prop := ∀ (s : Shared) (H : Hp) (a : Addr) (cl : List (Str × Addr)) (fp : List Addr), C (X.blk s H scope (compEnvC scope cl a X.env) fp)
theorem pe_lcN {elt tg iter : Expr} {ifs : List Expr} {more : List Comprehension} {scope : Scope} {own : List (Str × Nat)} {pos : Pos} {wi : TI} {g : TG} {tt : TT} {te : TE} {r : List Clz} (hc : X.calm = true) (hN : X.N.Nodup) (hi : PI X tg iter wi) (ok : BlkOk X.N X.env.scope scope own) (hv : ∀ i ∈ topV r, i ∈ own.map (·.2))
    (hg : AtBlk X scope fun Y => PG Y tg g) (ht : AtBlk X scope fun Y => PTs Y ifs tt) (he : AtBlk X scope fun Y => PE Y elt te) (hr : AtBlk X scope fun Y => Lv Y (⟨tg, iter, ifs, 0⟩ :: more) 1 r) (hs : ∀ x, foldedSetIterable iter X.env x = pure x := by intro _; rfl) :
    PE X (.ListComp elt (⟨tg, iter, ifs, 0⟩ :: more) scope pos) (tLcN wi g tt r te (own.map (·.2))) := by
  refine ⟨fun pins s σ H Q I h => ?_⟩
  rw [eval_ListComp]
  have free : ∀ y ∈ scope.names, y.2 = .free → ∃ c, X.env.cells.lookup y.1 = some c := fun y hy e => I.ok.has _ ((ok.free y hy e).imp id id)
  refine wpAny_comprehension_free (use := none) rfl hs (closure_ok free) ok.kind (fun y hy e => by rw [ok.uniq y hy, e]) (thn (hi.run pins s σ H _ I h) fun xv s1 hx => thn hx fun itv s2 h2 => ?_)
  obtain ⟨it, fp, tn, J, H2, e, I2, T, st2, f2, q⟩ := h2
  subst e
  refine wpAny_newObj_type (newEnv_comp ?_) (by show 0 ≤ sizeLine; decide)
  generalize hD : s2.heap.objs.size = D
  obtain ⟨W, ⟨m0, w0⟩, turn⟩ := q D (I2.hok.fresh (Nat.le_of_eq hD))
  generalize hs3 : ({ s2 with heap := s2.heap.push { cls := .type "list", data := .seq ([] : List Value).toArray } } : Shared) = s3
  have h3 : s3.heap = s2.heap.push { cls := .type "list", data := .seq ([] : List Value).toArray } := by rw [← hs3]
  have I3 : Inv X pins σ (upd H2 D (.lst [])) s3 := by
    rw [← hs3]
    refine I2.laid (t' := s2.toks) (fun b o e => Heap.get?_push_of_some _ e) (Nat.le_of_eq hD) ⟨Nat.zero_le _, [], 0, .nil, ?_⟩
    rw [← hD]
    exact Heap.get?_push_size _ rfl
  have f3 : ∀ b ∈ fp, FpOk X pins (upd H2 D (.lst [])) b ∧ b < s3.heap.objs.size := fun b hb => by
    obtain ⟨o, eo, _⟩ := T.obj _ _ st2 b hb
    have lt := Heap.lt_size eo
    exact ⟨⟨by rw [upd_ne (by rw [← hD]; exact Nat.ne_of_lt lt)]; exact (f2 b hb).1, (f2 b hb).2⟩, by rw [h3, Heap.size_push]; exact Nat.lt_succ_of_lt lt⟩
  have st3 : tn 0 s3.heap := T.keep _ _ _ st2 fun b _ o e => by rw [h3]; exact Heap.get?_push_of_some _ e
  have I4 := block_start I3 ok hN f3
  generalize hcl : cellsFrom (s3.heap.objs.size + 1) scope.names (cloFrom X.env.cells scope.names []) = cl at I4
  have pg := hg s3 (upd H2 D (.lst [])) s3.heap.objs.size cl fp
  have pt := ht s3 (upd H2 D (.lst [])) s3.heap.objs.size cl fp
  have pe := he s3 (upd H2 D (.lst [])) s3.heap.objs.size cl fp
  have pr := hr s3 (upd H2 D (.lst [])) s3.heap.objs.size cl fp
  have nfp : ∀ b ∈ fp, (upd H2 D (.lst [])) b = none := fun b hb => (f3 b hb).1.1
  show codeAny (model X.prog X.w) X.A (.compStart (.ListComp elt (⟨tg, iter, ifs, 0⟩ :: more) scope pos) 0 (.ref it) (.ref D) (compEnvC scope cl s3.heap.objs.size X.env)) (compPost (model X.prog X.w) X.A X.xe none _ (.ref D) s3.heap.objs.size) { s3 with heap := pushCells (s3.heap.push { cls := .type "dict", data := .dict #[] }) scope.names }
  generalize hs4 : ({ s3 with heap := pushCells (s3.heap.push { cls := .type "dict", data := .dict #[] }) scope.names } : Shared) = s4 at I4 ⊢
  have st4 : tn 0 s4.heap := T.keep _ _ _ st3 fun b _ o e => by rw [← hs4]; exact pushCells_keeps _ _ _ _ (Heap.get?_push_of_some _ e)
  generalize hY : X.blk s3 (upd H2 D (.lst [])) scope (compEnvC scope cl s3.heap.objs.size X.env) fp = Y at I4 pg pt pe pr
  have y1 : Y.prog = X.prog := by rw [← hY] <;> rfl
  have y2 : Y.w = X.w := by rw [← hY] <;> rfl
  have y3 : Y.K = X.K := by rw [← hY] <;> rfl
  have y4 : Y.A = X.A := by rw [← hY] <;> rfl
  have y5 : Y.calm = true := by rw [← hY]; exact hc
  have y6 : Y.xe = fun _ _ => False := by rw [← hY] <;> rfl
  have y7 : Y.env = compEnvC scope cl s3.heap.objs.size X.env := by rw [← hY] <;> rfl
  have stat : ∀ {σ' : L2.St} {H' : Hp} {s' : Shared}, Inv Y [] σ' H' s' → (∀ b ∈ fp, H' b = none) → ∀ b ∈ fp, FpOk Y [] H' b := by
    rw [← hY]
    exact fun {σ' H' s'} I' hn b hb => ⟨hn b hb, (I'.ok.exf b hb).1, I'.ok.exfs b hb, .inl hb, fun x c e => (I'.ok.exf b hb).2 x c e, fun p hp => nomatch (show p ∈ ([] : List (Addr × Obj)) ++ [] from hp)⟩
  have home : ∀ {σ' : L2.St} {H' : Hp} {s' : Shared}, Inv Y [] σ' H' s' → Q (.ref D) H' → compPost (model X.prog X.w) X.A X.xe none (EP X pins σ Q) (.ref D) s3.heap.objs.size (.ok .next) s' := by
    rw [← hY]
    intro σ' H' s' I' qq
    have I7 : Inv X pins σ H' s' := I3.call' (ch := fp) I'.os I'.base I'.hok I'.bare fun b hb => ⟨(f3 b hb).1.2.2.2.1, (f3 b hb).1.2.1, (f3 b hb).1.2.2.2.2.1, (f3 b hb).1.2.2.2.2.2⟩
    obtain ⟨m, hn, _⟩ := I'.loc
    obtain ⟨g0, g1, g2, g3, g4, g5⟩ := I3.fpOk (H' := H') (Nat.le_refl _) I'.free
    exact ⟨m, hn, fun h'' sb => ⟨.ref D, H', I7.turned (t' := s'.toks) (fun b o hb e => (sb.2 b hb).trans e) g0 g1 g3 g4 g5, rfl, qq⟩⟩
  rw [← y7]
  have loop : codeAny (model X.prog X.w) X.A (.compLoop (.ListComp elt (⟨tg, iter, ifs, 0⟩ :: more) scope pos) 0 (.ref it) (.ref D) Y.env) (compPost (model X.prog X.w) X.A X.xe none (EP X pins σ Q) (.ref D) s3.heap.objs.size) s4 := by
    refine cloop_any (gens := ⟨tg, iter, ifs, 0⟩ :: more) rfl pr.nxt (fun n s' => ∃ i H', Inv Y [] (wipe σ (own.map (·.2))) H' s' ∧ tn i s'.heap ∧ (∀ b ∈ fp, H' b = none) ∧ W i n H') ?_ m0 ⟨0, _, I4, st4, nfp, w0⟩
    rintro n s5 ⟨i, H5, I5, st5, n5, w5⟩
    unfold CTurn
    rcases turn i n H5 w5 with ⟨hstop, qq⟩ | ⟨hgo, N2, hN2, step⟩
    · have run := T.done Y y1 y2 y3 y5 i [] s5 _ H5 (fun _ _ => False) I5 (stat I5 n5) st5 hstop
      rw [y4] at run
      refine thnF run fun r' s6 ⟨e6, I6⟩ => ?_
      subst e6
      exact home I6 qq
    · have run := T.item Y y1 y2 y3 y5 i [] s5 _ H5 (fun _ _ => False) I5 (stat I5 n5) st5 hgo
      rw [y4] at run
      refine thnF run fun r' s6 ⟨u, e6, h6⟩ => ?_
      subst e6
      refine thnF h6 fun _ s7 ⟨x, H7, I7, r7, y7', st7, n7⟩ => ?_
      have I7' := I7.pinned (stat I7 n7) (T.obj _ _ st7)
      have rg := pg.run ([] ++ pinsAt fp s7.heap) s7 _ H7 x u _ I7' r7 (step x H7 y7')
      rw [y6, y4, y1, y2] at rg
      refine thnF rg fun _ s8 ⟨σ8, H8, I8, hw8, q8⟩ => ?_
      have rt := pt.run ([] ++ pinsAt fp s7.heap) s8 σ8 H8 _ I8 q8
      rw [y6, y4, y1, y2] at rt
      refine thnF rt fun b s9 ⟨H9, I9, q9⟩ => ?_
      have back : ∀ {σ' : L2.St} {H' : Hp} {s' : Shared}, Inv Y ([] ++ pinsAt fp s7.heap) σ' H' s' → σ8.length = σ'.length → (∀ (j : Nat) v, (wipe σ8 (topV r))[j]? = some (some v) → σ'[j]? = some (some v)) → N2 H' → ∃ m, m < n ∧ ∃ j H', Inv Y [] (wipe σ (own.map (·.2))) H' s' ∧ tn j s'.heap ∧ (∀ b ∈ fp, H' b = none) ∧ W j m H' := by
        intro σ' H' s' I' hl hk nx
        obtain ⟨m', hm, w'⟩ := hN2 H' nx
        have pin : ∀ b ∈ fp, ∀ o, s7.heap.get? b = some o → s'.heap.get? b = some o ∧ H' b = none := fun b hb o e =>
          have z := I'.pin (b, o) (List.mem_append_right _ (List.mem_append_right _ (mem_pinsAt hb e)))
          ⟨z.1, z.2.1⟩
        refine ⟨m', hm, i + 1, H', (I'.unpinned (pins := [])).weak ?_ (fun j v e => ?_), T.keep _ _ _ st7 fun b hb o e => (pin b hb o e).1, fun b hb => ?_, w'⟩
        · rw [← hl, ← hw8, wipe_length]
        · rw [← hw8] at e
          obtain ⟨e1, e2⟩ := wipe_some e
          refine hk j v ?_
          rw [wipe_out fun z => e2 (hv j z)]
          exact e1
        · obtain ⟨o, e, _⟩ := T.obj _ _ st7 b hb
          exact (pin b hb o e).2
      cases b with
      | false => exact back I9 rfl (fun j v e => (wipe_some e).1) (by simpa using q9)
      | true =>
        have z := body_ok (gens := ⟨tg, iter, ifs, 0⟩ :: more) (scope := scope) (pos := pos) y5 y6 pe pr ([] ++ pinsAt fp s7.heap) σ8 H9 s9 N2 _ (notedBy (model X.prog X.w) X.A Y.env fun e s' => compPost (model X.prog X.w) X.A X.xe none (EP X pins σ Q) (.ref D) s3.heap.objs.size (.error e) s') I9 (by simpa using q9) fun σ' H' s' I' hl hk nx => back I' hl hk nx
        rw [y1, y2, y4] at z
        exact z
  exact codeAny_compStart_list loop (T.self X.A 0 _ _ _ st4 loop)
end
end Cn

/-! dict comprehensions whose keys are tuples -/
namespace Cn
open PySem PySem.Spec PyProof.Rows L2
theorem d_dictSetT {X : Cx} {pins : List (Addr × Obj)} {σ : L2.St} {H : Hp} {s : Shared} {E : Value → Shared → Prop} {D c : Addr} {kvs : List (List Key × V)} {k : List Key} {v : V} {u r : Value} {Q : Unit → Shared → Prop} (hu : X.A.units < cLine) (I : Inv X pins σ H s) (hD : H D = some (.dT kvs)) (hc : H c = some (.tup (k.map kV))) (hz : kvs.length < sizeLine)
    (ry : RelV (.ref c) u) (rv : RelV v r) (h : ∀ s', Inv X pins σ (upd H D (.dT (putK kvs k v))) s' → Q () s') : wpAny (model X.prog X.w) X.A (dictSet D u r) Q E s := by
  obtain rfl : u = Value.ref c := ry
  obtain ⟨z, hd, xs, rel, dd⟩ := dt_of I.hok hD
  have l1 : xs.length ≤ sizeLine := by rw [← Paired.length rel]; exact z
  have l2 : (putK kvs k v).length ≤ sizeLine := by have := length_putK kvs k v; omega
  refine wpAny_dictSet_heap (hsz := l1) (show (tupleKind (mixKind X.prog X.w)).room X.A from hu) (key_of I.hok hc) dd fun h' dd' hs => h _ ?_
  obtain ⟨o, es, ep, e1, e2, e3, e4, _, e5⟩ := dd'
  refine d_write I (by rw [hD]; exact True.intro) hs ⟨o, e1⟩ ⟨l2, hd, _, (rel.put k hc rv).keeps fun b ys eb => ?_, o, es, ep, e1, e2, e3, e4, e5⟩
  rw [upd_ne (ne_of eb hD (fun z => nomatch z))]
  exact eb
/-- {k: v for tg in iter if ..}, k a tuple -/
def tDcT (wi : TI) (g : TG) (tt : TT) (tk tv : TE) (vs : List Nat) : TE := fun σ H Q => wi σ H fun J H1 => ∀ D, H1 D = none → ∃ W : Nat → Nat → Hp → Prop, (∃ m, W 0 m (upd H1 D (.dT []))) ∧ ∀ i m H, W i m H → (J.stop i H ∧ Q (.ref D) H) ∨ (J.go i H ∧ ∃ N2 : Hp → Prop, (∀ H', N2 H' → ∃ m', m' < m ∧ W (i + 1) m' H') ∧
  ∀ x H', J.yld i H x H' → g x (wipe σ vs) H' fun σ2 H2 => wipe σ2 vs = wipe σ vs ∧ tt σ2 H2 fun b H3 => if b = true then tk σ2 H3 fun y H4 => tv σ2 H4 fun z H5 => ∃ (kvs : List (List Key × V)) (k : List Key) (c : Addr), y = .ref c ∧ H5 c = some (.tup (k.map kV)) ∧ H5 D = some (.dT kvs) ∧ kvs.length < sizeLine ∧ N2 (upd H5 D (.dT (putK kvs k z))) else N2 H3)
section
variable {X : Cx}
theorem dcT_run {kx vx tg iter : Expr} {ifs : List Expr} {scope : Scope} {own : List (Str × Nat)} {pos pz : Pos} {wi : TI} {g : TG} {tt : TT} {tk tv : TE} {pins : List (Addr × Obj)} {s : Shared} {σ : L2.St} {H : Hp} {Q : VK} {use : Option (Value → Sem Unit)} {Z : Value → Shared → Prop} (hu : X.A.units < cLine) (hc : X.calm = true) (hN : X.N.Nodup) (hi : PI X tg iter wi) (ok : BlkOk X.N X.env.scope scope own)
    (hg : AtBlk X scope fun Y => PG Y tg g) (ht : AtBlk X scope fun Y => PTs Y ifs tt) (hk : AtBlk X scope fun Y => PE Y kx tk) (he : AtBlk X scope fun Y => PE Y vx tv) (hs : ∀ x, foldedSetIterable iter X.env x = pure x) (I : Inv X pins σ H s) (h : tDcT wi g tt tk tv (own.map (·.2)) σ H Q)
    (hz : ∀ (D C : Addr) (s' : Shared) (m : Str → Option Value) (H' : Hp), Inv X pins σ H' s' → Q (.ref D) H' → s'.heap.Ns C m → FpOk X pins H' C → compPost (model X.prog X.w) X.A X.xe use Z (.ref D) C (.ok .next) s') :
    wpAny (model X.prog X.w) X.A (comprehension (.DictComp kx vx [⟨tg, iter, ifs, 0⟩] scope pos) scope X.env pz newDict false (eval iter X.env) use) Z X.xe s := by
  have free : ∀ y ∈ scope.names, y.2 = .free → ∃ c, X.env.cells.lookup y.1 = some c := fun y hy e => I.ok.has _ ((ok.free y hy e).imp id id)
  refine wpAny_comprehension_free (use := use) rfl hs (closure_ok free) ok.kind (fun y hy e => by rw [ok.uniq y hy, e]) (thn (hi.run pins s σ H _ I h) fun xv s1 hx => thn hx fun itv s2 h2 => ?_)
  obtain ⟨it, fp, tn, J, H2, e, I2, T, st2, f2, q⟩ := h2
  subst e
  refine wpAny_newObj_type (newEnv_comp ?_)
  generalize hD : s2.heap.objs.size = D
  obtain ⟨W, ⟨m0, w0⟩, turn⟩ := q D (I2.hok.fresh (Nat.le_of_eq hD))
  generalize hs3 : ({ s2 with heap := s2.heap.push { cls := .type "dict", data := .dict #[] } } : Shared) = s3
  have h3 : s3.heap = s2.heap.push { cls := .type "dict", data := .dict #[] } := by rw [← hs3]
  have I3 : Inv X pins σ (upd H2 D (.dT [])) s3 := by
    rw [← hs3]
    refine I2.laid (t' := s2.toks) (fun b o e => Heap.get?_push_of_some _ e) (Nat.le_of_eq hD) ?_
    rw [← hD]
    exact dt_empty s2.heap I2.big
  have f3 : ∀ b ∈ fp, FpOk X pins (upd H2 D (.dT [])) b ∧ b < s3.heap.objs.size := fun b hb => by
    obtain ⟨o, eo, _⟩ := T.obj _ _ st2 b hb
    have lt := Heap.lt_size eo
    exact ⟨⟨by rw [upd_ne (by rw [← hD]; exact Nat.ne_of_lt lt)]; exact (f2 b hb).1, (f2 b hb).2⟩, by rw [h3, Heap.size_push]; exact Nat.lt_succ_of_lt lt⟩
  have st3 : tn 0 s3.heap := T.keep _ _ _ st2 fun b _ o e => by rw [h3]; exact Heap.get?_push_of_some _ e
  have I4 := block_start I3 ok hN f3
  generalize hcl : cellsFrom (s3.heap.objs.size + 1) scope.names (cloFrom X.env.cells scope.names []) = cl at I4
  have pg := hg s3 (upd H2 D (.dT [])) s3.heap.objs.size cl fp
  have pt := ht s3 (upd H2 D (.dT [])) s3.heap.objs.size cl fp
  have pk := hk s3 (upd H2 D (.dT [])) s3.heap.objs.size cl fp
  have pe := he s3 (upd H2 D (.dT [])) s3.heap.objs.size cl fp
  have nfp : ∀ b ∈ fp, (upd H2 D (.dT [])) b = none := fun b hb => (f3 b hb).1.1
  show codeAny (model X.prog X.w) X.A (.compStart (.DictComp kx vx [⟨tg, iter, ifs, 0⟩] scope pos) 0 (.ref it) (.ref D) (compEnvC scope cl s3.heap.objs.size X.env)) (compPost (model X.prog X.w) X.A X.xe use Z (.ref D) s3.heap.objs.size) { s3 with heap := pushCells (s3.heap.push { cls := .type "dict", data := .dict #[] }) scope.names }
  generalize hs4 : ({ s3 with heap := pushCells (s3.heap.push { cls := .type "dict", data := .dict #[] }) scope.names } : Shared) = s4 at I4 ⊢
  have st4 : tn 0 s4.heap := T.keep _ _ _ st3 fun b _ o e => by rw [← hs4]; exact pushCells_keeps _ _ _ _ (Heap.get?_push_of_some _ e)
  generalize hY : X.blk s3 (upd H2 D (.dT [])) scope (compEnvC scope cl s3.heap.objs.size X.env) fp = Y at I4 pg pt pk pe
  have y1 : Y.prog = X.prog := by rw [← hY] <;> rfl
  have y2 : Y.w = X.w := by rw [← hY] <;> rfl
  have y3 : Y.K = X.K := by rw [← hY] <;> rfl
  have y4 : Y.A = X.A := by rw [← hY] <;> rfl
  have y5 : Y.calm = true := by rw [← hY]; exact hc
  have y6 : Y.xe = fun _ _ => False := by rw [← hY] <;> rfl
  have y7 : Y.env = compEnvC scope cl s3.heap.objs.size X.env := by rw [← hY] <;> rfl
  have stat : ∀ {σ' : L2.St} {H' : Hp} {s' : Shared}, Inv Y [] σ' H' s' → (∀ b ∈ fp, H' b = none) → ∀ b ∈ fp, FpOk Y [] H' b := by
    rw [← hY]
    exact fun {σ' H' s'} I' hn b hb => ⟨hn b hb, (I'.ok.exf b hb).1, I'.ok.exfs b hb, .inl hb, fun x c e => (I'.ok.exf b hb).2 x c e, fun p hp => nomatch (show p ∈ ([] : List (Addr × Obj)) ++ [] from hp)⟩
  have home : ∀ {σ' : L2.St} {H' : Hp} {s' : Shared}, Inv Y [] σ' H' s' → Q (.ref D) H' → compPost (model X.prog X.w) X.A X.xe use Z (.ref D) s3.heap.objs.size (.ok .next) s' := by
    rw [← hY]
    intro σ' H' s' I' qq
    have I7 : Inv X pins σ H' s' := I3.call' (ch := fp) I'.os I'.base I'.hok I'.bare fun b hb => ⟨(f3 b hb).1.2.2.2.1, (f3 b hb).1.2.1, (f3 b hb).1.2.2.2.2.1, (f3 b hb).1.2.2.2.2.2⟩
    obtain ⟨m, hn, _⟩ := I'.loc
    exact hz D _ s' m H' I7 qq hn (I3.fpOk (H' := H') (Nat.le_refl _) I'.free)
  rw [← y7]
  have loop : codeAny (model X.prog X.w) X.A (.compLoop (.DictComp kx vx [⟨tg, iter, ifs, 0⟩] scope pos) 0 (.ref it) (.ref D) Y.env) (compPost (model X.prog X.w) X.A X.xe use Z (.ref D) s3.heap.objs.size) s4 := by
    refine compLoop_anyD (fun n s' => ∃ i H', Inv Y [] (wipe σ (own.map (·.2))) H' s' ∧ tn i s'.heap ∧ (∀ b ∈ fp, H' b = none) ∧ W i n H') ?_ m0 ⟨0, _, I4, st4, nfp, w0⟩
    rintro n s5 ⟨i, H5, I5, st5, n5, w5⟩
    rcases turn i n H5 w5 with ⟨hstop, qq⟩ | ⟨hgo, N2, hN2, step⟩
    · have run := T.done Y y1 y2 y3 y5 i [] s5 _ H5 (fun _ _ => False) I5 (stat I5 n5) st5 hstop
      rw [y4] at run
      refine thnF run fun r' s6 ⟨e6, I6⟩ => ?_
      subst e6
      exact home I6 qq
    · have run := T.item Y y1 y2 y3 y5 i [] s5 _ H5 (fun _ _ => False) I5 (stat I5 n5) st5 hgo
      rw [y4] at run
      refine thnF run fun r' s6 ⟨u, e6, h6⟩ => ?_
      subst e6
      refine thnF h6 fun _ s7 ⟨x, H7, I7, r7, y7', st7, n7⟩ => ?_
      have I7' := I7.pinned (stat I7 n7) (T.obj _ _ st7)
      have rg := pg.run ([] ++ pinsAt fp s7.heap) s7 _ H7 x u _ I7' r7 (step x H7 y7')
      rw [y6, y4, y1, y2] at rg
      refine thnF rg fun _ s8 ⟨σ8, H8, I8, hw8, q8⟩ => ?_
      have rt := pt.run ([] ++ pinsAt fp s7.heap) s8 σ8 H8 _ I8 q8
      rw [y6, y4, y1, y2] at rt
      refine thnF rt fun b s9 ⟨H9, I9, q9⟩ => ?_
      have back : ∀ {σ' : L2.St} {H' : Hp} {s' : Shared}, Inv Y ([] ++ pinsAt fp s7.heap) σ' H' s' → σ8 = σ' → N2 H' → ∃ m, m < n ∧ ∃ j H', Inv Y [] (wipe σ (own.map (·.2))) H' s' ∧ tn j s'.heap ∧ (∀ b ∈ fp, H' b = none) ∧ W j m H' := by
        intro σ' H' s' I' hl nx
        subst hl
        obtain ⟨m', hm, w'⟩ := hN2 H' nx
        have pin : ∀ b ∈ fp, ∀ o, s7.heap.get? b = some o → s'.heap.get? b = some o ∧ H' b = none := fun b hb o e =>
          have z := I'.pin (b, o) (List.mem_append_right _ (List.mem_append_right _ (mem_pinsAt hb e)))
          ⟨z.1, z.2.1⟩
        refine ⟨m', hm, i + 1, H', (I'.unpinned (pins := [])).weak ?_ (fun j v e => ?_), T.keep _ _ _ st7 fun b hb o e => (pin b hb o e).1, fun b hb => ?_, w'⟩
        · rw [← hw8, wipe_length]
        · rw [← hw8] at e
          exact (wipe_some e).1
        · obtain ⟨o, e, _⟩ := T.obj _ _ st7 b hb
          exact (pin b hb o e).2
      cases b with
      | false => exact back I9 rfl (by simpa using q9)
      | true =>
        have rk := pk.run ([] ++ pinsAt fp s7.heap) s9 σ8 H9 _ I9 (show tk σ8 H9 _ by simpa using q9)
        rw [y6, y4, y1, y2] at rk
        refine thnF rk fun u1 s10 ⟨yk, H10, I10, r10, q10⟩ => ?_
        have rv := pe.run ([] ++ pinsAt fp s7.heap) s10 σ8 H10 _ I10 q10
        rw [y6, y4, y1, y2] at rv
        refine thnF rv fun u2 s11 ⟨yv, H11, I11, r11, kvs, k, c, ec, hc11, hD11, hz11, nx⟩ => ?_
        subst ec
        have z := d_dictSetT (Q := fun _ s' => ∃ m, m < n ∧ ∃ j H', Inv Y [] (wipe σ (own.map (·.2))) H' s' ∧ tn j s'.heap ∧ (∀ b ∈ fp, H' b = none) ∧ W j m H') (E := fun _ _ => False) (by rw [y4]; exact hu) I11 hD11 hc11 hz11 r10 r11 fun s12 I12 => back I12 rfl nx
        rw [y1, y2, y4] at z
        exact thnF z fun _ _ q => q
  exact codeAny_compStart_dict loop (T.self X.A 0 _ _ _ st4 loop)
theorem pe_dcT {kx vx tg iter : Expr} {ifs : List Expr} {scope : Scope} {own : List (Str × Nat)} {pos : Pos} {wi : TI} {g : TG} {tt : TT} {tk tv : TE} (hu : X.A.units < cLine) (hc : X.calm = true) (hN : X.N.Nodup) (hi : PI X tg iter wi) (ok : BlkOk X.N X.env.scope scope own)
    (hg : AtBlk X scope fun Y => PG Y tg g) (ht : AtBlk X scope fun Y => PTs Y ifs tt) (hk : AtBlk X scope fun Y => PE Y kx tk) (he : AtBlk X scope fun Y => PE Y vx tv) (hs : ∀ x, foldedSetIterable iter X.env x = pure x := by intro _; rfl) :
    PE X (.DictComp kx vx [⟨tg, iter, ifs, 0⟩] scope pos) (tDcT wi g tt tk tv (own.map (·.2))) := by
  refine ⟨fun pins s σ H Q I h => ?_⟩
  rw [arm_eval_DictComp]
  refine dcT_run hu hc hN hi ok hg ht hk he hs I h ?_
  intro D C s' m H' I' qq hn ⟨_, g1, g2, g3, g4, g5⟩
  exact ⟨m, hn, fun h'' sb => ⟨.ref D, H', I'.turned (t' := s'.toks) (fun b o hb e => (sb.2 b hb).trans e) ‹_› g1 g3 g4 g5, rfl, qq⟩⟩
/-- name = {..} on one line, the name a local: name and comprehension change places -/
theorem sw_dict {kx vx : Expr} {gens : List Comprehension} {scope : Scope} {pos pn : Pos} {x : Str} {l : Nat} {env : Env} (h1 : env.scope.kind = .function) (h2 : env.scope.names.lookup x = some .local) (h3 : (pn.line == pos.line) = true) (h4 : (scope.names.any fun (n, k) => n == x && (k == .local || k == .cell)) = false) :
    swapsWith (.DictComp kx vx gens scope pos) (some (.Name x pn)) l env = pure true := by
  have e1 : env.kindOf x = some .local := h2
  have e2 : env.blockKind = .function := by
    unfold Env.blockKind
    rw [h1]
    rfl
  unfold swapsWith
  simp only [e1, e2, h4, h3, Expr.pos]
  rfl
theorem ps_setDcT {i : Nat} {x : Str} {pn sp : Pos} {kx vx tg iter : Expr} {ifs : List Expr} {scope : Scope} {own : List (Str × Nat)} {pos : Pos} {wi : TI} {g : TG} {tt : TT} {tk tv : TE} (hu : X.A.units < cLine) (hc : X.calm = true) (hN : X.N.Nodup) (hx : X.N[i]? = some x) (hl : X.env.scope.names.lookup x = some .local)
    (hw : swapsWith (.DictComp kx vx [⟨tg, iter, ifs, 0⟩] scope pos) (some (.Name x pn)) sp.line X.env = pure true) (hi : PI X tg iter wi) (ok : BlkOk X.N X.env.scope scope own)
    (hg : AtBlk X scope fun Y => PG Y tg g) (ht : AtBlk X scope fun Y => PTs Y ifs tt) (hk : AtBlk X scope fun Y => PE Y kx tk) (he : AtBlk X scope fun Y => PE Y vx tv) (hs : ∀ x, foldedSetIterable iter X.env x = pure x := by intro _; rfl) :
    PS X (.Assign [.Name x pn] (.DictComp kx vx [⟨tg, iter, ifs, 0⟩] scope pos) sp) (tAsg (tDcT wi g tt tk tv (own.map (·.2))) (gName i)) := by
  refine ⟨fun pins s σ H D I h => ?_⟩
  rw [exec_Assign_Name_used _ _ _ _ hw]
  refine wpAny_bind (wpAny_standAt (wpAny_bind ?_))
  have h' : tDcT wi g tt tk tv (own.map (·.2)) σ H (fun y H1 => gName i y σ H1 D.nx) := h
  have run : wpAny (model X.prog X.w) X.A (comprehension (.DictComp kx vx [⟨tg, iter, ifs, 0⟩] scope pos) scope X.env (firstIterPos [⟨tg, iter, ifs, 0⟩] pos) newDict false (eval iter X.env) (some (assign (.Name x pn) X.env))) (fun _ s' => SP X pins D .next s') X.xe s := by
    refine dcT_run hu hc hN hi ok hg ht hk he hs I h' ?_
    intro L C s' m H' I' qq hn ⟨_, g1, g2, g3, g4, g5⟩
    show wpAny _ _ (assign (.Name x pn) X.env (.ref L)) _ _ _
    refine wpAny_assign_Name (store_ok2 (v := V.ref L) I' hN hx (.inl hl) rfl ?_ (.inr hl))
    intro s2 I2 ⟨a, sb, ha⟩
    have away : C ≠ a := by
      intro e
      rcases ha with z | z
      · exact g1 (e.trans z)
      · exact g4 x a z e.symm
    exact ⟨m, hn.sameBut sb away, fun h3 sb3 => ⟨_, H', I2.turned (t' := s2.toks) (fun b o hb e => (sb3.2 b hb).trans e) ‹_› g1 g3 g4 g5, qq⟩⟩
  exact wpAny_bind (thn run fun _ _ q => wpAny_pure (wpAny_pure q))
end
end Cn

/-! range(lo, hi): loops, comprehensions; sums -/
namespace Dx
open PySem PySem.Spec PyProof.Rows L2 Evl
section
variable {F : Fm} {K : PySem.W.Frag} {σ : L2.St} {B0 H0 B H : Hp} {D : Ends} {tb tz : TS} {tl te : TE} {tt : TT} {j : Nat} {vsN : List Nat}
theorem dds2 {H : Hp} {vs : List V} {i k : Int} (h : DdAll K H vs [.int i, .int k]) : vs = [.int i, .int k] := by
  have := ddAll_ints (k := [i, k]) h
  exact this
theorem qd_forR2 {ta : TA} {lo n : Int} (a : At F B0 H0 B H) (h : EDs F K ta σ B [.int lo, .int n]) (hn : (-4611686018427387904 ≤ lo ∧ lo < 4611686018427387904) ∧ -4611686018427387904 ≤ n ∧ n < 4611686018427387904) (I : Nat → L2.St → Hp → Prop) (h0 : ∀ B1, Ex B B1 → I 0 σ B1)
    (hs : ∀ Bb (i : Nat) σ' B1 H1, Ex B Bb → lo + (i : Int) < n → Ex Bb B1 → At F B0 H0 B1 H1 → I i σ' B1 → tb { D with nx := Lp F B0 H0 Bb (I (i + 1)), ct := Lp F B0 H0 Bb (I (i + 1)), bk := tz D } (σ'.set j (some (.int (lo + (i : Int))))) H1)
    (hd : ∀ σ' B1 H1, Ex B B1 → At F B0 H0 B1 H1 → I (n - lo).toNat σ' B1 → tz D σ' H1) : tSeq (tFor (iRng2 ta) (gName j) tb) tz D σ H := by
  refine h B (Ex.refl B) H a.j _ fun vs B1 H1 s1 j1 p => ?_
  have a1 := a.next s1 j1
  obtain rfl := dds2 p
  exact ⟨lo, n, rfl, ⟨by omega, by omega, by omega, by omega⟩, for_range (lo := lo) (n := (n - lo).toNat) (D := { D with nx := tz D }) (fun i => Lp F B0 H0 B1 (I i)) ⟨B1, Ex.refl B1, a1, h0 B1 s1.bb⟩ (fun i σ' H' hx ⟨B', e, a', hi⟩ => hs B1 i σ' B' H' s1.bb (by omega) e a' hi) (fun σ' H' ⟨B', e, a', hi⟩ => hd σ' B' H' (s1.bb.trans e) a' hi)⟩
/-- [te for i in range(lo, n) if tt] -/
theorem ed_lcR2 {ta : TA} {lo n : Int} (p : Nat → Bool) (g : Nat → PyData) (h : EDs F K ta σ B [.int lo, .int n]) (hn : (-4611686018427387904 ≤ lo ∧ lo < 4611686018427387904) ∧ -4611686018427387904 ≤ n ∧ n < 4611686018427387904 ∧ n - lo ≤ 16777216) (hw : ∀ x, wipe ((wipe σ vsN).set j (some x)) vsN = wipe σ vsN)
    (ht : ∀ (i : Nat) B1, lo + (i : Int) < n → Ex B B1 → ETt F tt ((wipe σ vsN).set j (some (.int (lo + (i : Int))))) B1 (p i))
    (he : ∀ (i : Nat) B1, lo + (i : Int) < n → p i = true → Ex B B1 → ED F K te ((wipe σ vsN).set j (some (.int (lo + (i : Int))))) B1 (g i)) :
    ED F K (tLc (iRng2 ta) (gName j) tt te vsN) σ B (.list (((List.range (n - lo).toNat).filter p).map g)) := fun B0 e0 H0 k0 Q q => by
  refine h B0 e0 H0 k0 _ fun vs B1 H1 s1 k1 pv => ?_
  obtain rfl := dds2 pv
  have le : ∀ i, (((List.range i).filter p).map g).length ≤ i := fun i => by
    rw [List.length_map]
    exact Nat.le_trans (List.length_filter_le _ _) (Nat.le_of_eq List.length_range)
  refine ⟨lo, n, rfl, ⟨by omega, by omega, by omega, by omega⟩, fun Dl hD => lc_range (lo := lo) (n := (n - lo).toNat) (fun i => Cq F K B1 H1 Dl (((List.range i).filter p).map g)) (cq_start k1 hD) (fun i H' hi c => ⟨hw _, ?_⟩) (fun H' c => ?_)⟩
  · have hi' : lo + (i : Int) < n := by omega
    rw [List.range_succ, filter_snoc]
    exact cq_turn k1 hD (Nat.lt_of_le_of_lt (le i) (by omega)) c (fun B' e => ht i B' hi' ((e0.trans s1.bb).trans e)) (fun hp B' e => he i B' hi' hp ((e0.trans s1.bb).trans e))
  · obtain ⟨B2, s2, k2, g2⟩ := cq_done k1 hD (Nat.le_trans (le _) (by omega)) c
    exact q _ B2 H' (s1.trans s2) k2 g2
/-- sum([..]) -/
theorem rc_sum {ns : List Int} : RDc F K (rSum K) B [.list (ns.map .int)] (.int ns.sum) := rc_of fun H u hu => by
  obtain ⟨a, xs, rfl, h1, l1, g1⟩ := dd_lst hu
  exact ⟨.int ns.sum, fun _ => .int _, fun Q q => ⟨a, ns, rfl, by rw [← ddAll_ints g1]; exact sq_of h1, q⟩⟩
theorem cr_sumK {X : Cx} (K : PySem.W.Frag) (hc : X.calm = true) (hK : X.K = K := by rfl) : CallR X (.builtin "sum") (rSum K) := by subst hK; exact cr_sum hc
end
end Dx

/-! ranges that are kept under a name; comprehensions of several clauses over ranges, as data -/
namespace Dx
open PySem PySem.Spec PyProof.Rows L2 Evl
theorem bt_range : bootBuiltins "range" = some (.type "range") := by decide +kernel
/-- range(n), as a value -/
def rRng1 : List V → Hp → VK → Prop := fun vs H Q => ∃ j, vs = [V.int j] ∧ ∀ p, H p = none → Q (.ref p) (upd H p (.rng 0 j))
theorem call_rng1 {X : Cx} : CallR X (.type "range") rRng1 := by
  rintro pins s σ H vs us Q I r ⟨j, rfl, q⟩
  cases r with
  | cons a t =>
    cases t
    obtain ⟨tk, rfl⟩ := a
    refine call_range_1 ⟨.ref s.heap.objs.size, upd H s.heap.objs.size (.rng 0 j), I.laid (t' := s.toks + 2) (fun _ _ e => Heap.get?_push_of_some _ e) (Nat.le_refl _) ⟨_, _, _, Heap.get?_push_size _ rfl⟩, rfl, q _ (I.hok.fresh (Nat.le_refl _))⟩
def iRngV (tl : TE) : TI := fun σ H R => tl σ H fun x H1 => ∃ a lo hi, x = .ref a ∧ H1 a = some (.rng lo hi) ∧ (-(2 ^ 62) ≤ lo ∧ lo < 2 ^ 62 ∧ -(2 ^ 62) ≤ hi ∧ hi < 2 ^ 62) ∧ R (Itr lo (hi - lo).toNat) H1
theorem pi_rngV {X : Cx} {tg l : Expr} {tl : TE} (hl : PE X l tl) : PI X tg l (iRngV tl) := by
  refine ⟨fun pins s σ H R I h => thn (hl.run pins s σ H _ I h) ?_⟩
  rintro v s1 ⟨x, H1, I1, r1, a, lo, hi, rfl, ha, ⟨b1, b2, b3, b4⟩, q⟩
  cases r1
  obtain ⟨t1, t2, t3, ho⟩ := I1.hok a _ ha
  refine wpAny_pyIter_range (show IsRange s1.heap a lo hi 1 t1 t2 t3 from ho) (small_one b1 b2 b3 b4) ?_
  refine ⟨s1.heap.objs.size, [s1.heap.objs.size], _, _, H1, rfl, I1.kept (t' := s1.toks) fun _ _ e => Heap.get?_push_of_some _ e, turn_range _ lo (hi - lo).toNat, ?_, fun b hb => ?_, q⟩
  · have z2 : (((hi - lo).toNat : Nat) : Int) - ((0 : Nat) : Int) = Builtin.Range.rangeSize lo hi 1 := by rw [rangeSize_one]; split <;> omega
    show IsRangeIter _ _ (lo + ((0 : Nat) : Int) * 1) ((((hi - lo).toNat : Nat) : Int) - ((0 : Nat) : Int)) 1
    rw [z2, show lo + ((0 : Nat) : Int) * 1 = lo by simp]
    exact Heap.get?_push_size _ rfl
  · obtain rfl : b = s1.heap.objs.size := by simpa using hb
    exact I1.fpOk (Nat.le_refl _) (I1.hok.fresh (Nat.le_refl _))
/-- a range that stands -/
def RngV (n : Int) : PV := fun v B => ∃ a, v = .ref a ∧ B a = some (.rng 0 n)
theorem upc_rng {n : Int} : Upc (RngV n) := fun _ _ _ e ⟨a, h, g⟩ => ⟨a, h, e _ _ g⟩
theorem ev_rng1 {F : Fm} {K : PySem.W.Frag} {σ : L2.St} {B : Hp} {te : TE} {n : Int} (h : ED F K te σ B (.int n)) : EV F (tCB rRng1 (tCons te tNil)) σ B (RngV n) := ev_cb (eds_cons h eds_nil) fun B1 e0 H us jj hu Q q => by
  have hu' : us = [V.int n] := ddAll_ints (k := [n]) hu
  exact ⟨n, hu', fun p hp => q _ _ _ (Step.alloc jj.e hp) (jj.alloc hp) ⟨p, rfl, upd_same⟩⟩
/-! ### the clauses of a comprehension, as data -/
open Cn
/-- the turns of a range -/
theorem w_rng {lo : Int} {n : Nat} {H1 : Hp} {Qd : Hp → Prop} {body : V → Hp → (Hp → Prop) → Prop} (I : Nat → Hp → Prop) (h0 : I 0 H1) (hs : ∀ i H, i < n → I i H → body (.int (lo + (i : Nat))) H (I (i + 1))) (hd : ∀ H, I n H → Qd H) :
    ∃ W : Nat → Nat → Hp → Prop, (∃ m, W 0 m H1) ∧ ∀ i m H, W i m H → ((Itr lo n).stop i H ∧ Qd H) ∨ ((Itr lo n).go i H ∧ ∃ N2 : Hp → Prop, (∀ H', N2 H' → ∃ m', m' < m ∧ W (i + 1) m' H') ∧ ∀ x H', (Itr lo n).yld i H x H' → body x H' N2) := by
  refine ⟨fun i m H => m + i = n ∧ I i H, ⟨n, rfl, h0⟩, ?_⟩
  rintro i m H ⟨e, p⟩
  rcases Nat.lt_or_ge i n with h | h
  · refine .inr ⟨h, I (i + 1), fun H' p' => ⟨n - (i + 1), by omega, by omega, p'⟩, ?_⟩
    rintro x H' ⟨e1, e2⟩
    rw [e1, e2]
    exact hs i H h p
  · refine .inl ⟨h, hd H ?_⟩
    obtain rfl : i = n := by omega
    exact p
section
variable {F : Fm} {K : PySem.W.Frag} {σ : L2.St} {te : TE} {r : List Clz} {ds : List PyData} {d : PyData}
/-- what the clauses r put to the list at D -/
def InP (F : Fm) (K : PySem.W.Frag) (te : TE) (r : List Clz) (σ : L2.St) (Bz : Hp) (ds : List PyData) : Prop := ∀ (B1 H1 : Hp) (D : Addr), Ex Bz B1 → Ok F B1 H1 → H1 D = none → ∀ (acc0 : List PyData) (H' : Hp), Cq F K B1 H1 D acc0 H' → acc0.length + ds.length ≤ 16777216 → ∀ Nx : Hp → Prop, (∀ H'', Cq F K B1 H1 D (acc0 ++ ds) H'' → Nx H'') → lcIn D te r σ H' Nx
theorem in_nil {Bz : Hp} (he : ∀ B', Ex Bz B' → ED F K te σ B' d) : InP F K te [] σ Bz [d] := fun B1 H1 D eB k1 hD acc0 H' c hl Nx q => by
  obtain ⟨B', acc, s, k, hb, hd, ha⟩ := c
  have nm : ¬ F.M D := fun m => (F.lv H1 D k1.j m).ne hD
  have lv : Liv H' D := ⟨_, hd, trivial⟩
  refine he B' (eB.trans s.bb) B' (Ex.refl B') H' k _ fun y B4 H4 s4 k4 g => ⟨acc, s4.keep D _ nm hd, ?_, q _ ?_⟩
  · rw [ha.len, sizeLine_eq]
    have : acc0.length + 1 ≤ 16777216 := hl
    omega
  · exact cq_more hD k1 (s.trans s4) k4 (s4.sep D hb lv) (s4.keep D _ nm hd) (ha.up s4.bb) g
theorem flatMap_len {n : Nat} {g : Nat → List PyData} (i : Nat) (h : i ≤ n) : ((List.range i).flatMap g).length ≤ ((List.range n).flatMap g).length := by
  induction n with
  | zero =>
    obtain rfl : i = 0 := by omega
    exact Nat.le_refl _
  | succ n ih =>
    rcases Nat.lt_or_ge n i with h2 | h2
    · obtain rfl : i = n + 1 := by omega
      exact Nat.le_refl _
    · rw [List.range_succ, List.flatMap_append, List.length_append]
      exact Nat.le_trans (ih h2) (Nat.le_add_right _ _)
theorem flatMap_succ (n : Nat) (g : Nat → List PyData) : (List.range (n + 1)).flatMap g = (List.range n).flatMap g ++ g n := by
  rw [List.range_succ, List.flatMap_append, List.flatMap_cons, List.flatMap_nil, List.append_nil]
/-- for x in range(n) .. -/
theorem in_rng {Bz : Hp} {ta : TA} {n : Int} {j : Nat} {vs : List Nat} {g : Nat → List PyData} (h : ∀ B', Ex Bz B' → EDs F K ta σ B' [.int n]) (hn : -4611686018427387904 ≤ n ∧ n < 4611686018427387904) (hw : ∀ x, wipe ((wipe σ vs).set j (some x)) vs = wipe σ vs)
    (hb : ∀ i : Nat, (i : Int) < n → InP F K te r ((wipe σ vs).set j (some (.int ((i : Nat) : Int)))) Bz (g i)) : InP F K te ((iRng1 ta, gName j, (fun _ H Q => Q true H), vs) :: r) σ Bz ((List.range n.toNat).flatMap g) := fun B1 H1 D eB k1 hD acc0 H' c hl Nx q => by
  obtain ⟨B', acc, s, k, hbd, hd, ha⟩ := c
  have nm : ¬ F.M D := fun m => (F.lv H1 D k1.j m).ne hD
  have lv : Liv H' D := ⟨_, hd, trivial⟩
  refine h B' (eB.trans s.bb) B' (Ex.refl B') H' k _ fun us B2 H2 s2 k2 pv => ?_
  have hu : us = [V.int n] := ddAll_ints (k := [n]) pv
  refine ⟨n, hu, by omega, by omega, w_rng (lo := 0) (n := n.toNat) (fun i H => Cq F K B1 H1 D (acc0 ++ (List.range i).flatMap g) H) ?_ (fun i H hi c => ⟨hw _, ?_⟩) (fun H c => q _ c)⟩
  · rw [List.range_zero, List.flatMap_nil, List.append_nil]
    exact ⟨B2, acc, s.trans s2, k2, s2.sep D hbd lv, s2.keep D _ nm hd, ha.up s2.bb⟩
  · have hl2 := flatMap_len (g := g) (i + 1) (n := n.toNat) hi
    rw [flatMap_succ, List.length_append] at hl2
    show lcIn D te r ((wipe σ vs).set j (some (.int (0 + ((i : Nat) : Int))))) H _
    rw [Int.zero_add, flatMap_succ, ← List.append_assoc]
    exact hb i (by omega) B1 H1 D eB k1 hD _ H c (by rw [List.length_append]; omega) _ fun H'' c' => c'
/-- [te for x in a kept range ..] -/
theorem ed_lcRV {Bz : Hp} {tl : TE} {n : Int} {j : Nat} {vs : List Nat} {g : Nat → List PyData} (h : EV F tl σ Bz (RngV n)) (hn : -4611686018427387904 ≤ n ∧ n < 4611686018427387904) (hw : ∀ x, wipe ((wipe σ vs).set j (some x)) vs = wipe σ vs)
    (hb : ∀ i : Nat, (i : Int) < n → InP F K te r ((wipe σ vs).set j (some (.int ((i : Nat) : Int)))) Bz (g i)) (hz : ((List.range n.toNat).flatMap g).length ≤ 16777216) : ED F K (tLcN (iRngV tl) (gName j) (fun _ H Q => Q true H) r te vs) σ Bz (.list ((List.range n.toNat).flatMap g)) := fun B0 e0 H0 k0 Q q => by
  refine h B0 e0 H0 k0 _ fun v B1 H1 s1 k1 ⟨a, ea, ga⟩ => ?_
  refine ⟨a, 0, n, ea, k1.e _ _ ga, ⟨by omega, by omega, by omega, by omega⟩, fun D hD => ?_⟩
  rw [show (n - 0).toNat = n.toNat by rw [Int.sub_zero]]
  refine w_rng (lo := 0) (n := n.toNat) (fun i H => Cq F K B1 H1 D ((List.range i).flatMap g) H) ?_ (fun i H hi c => ⟨hw _, ?_⟩) (fun H c => ?_)
  · rw [List.range_zero, List.flatMap_nil]
    exact cq_start k1 hD
  · have hl2 := flatMap_len (g := g) (i + 1) (n := n.toNat) hi
    rw [flatMap_succ, List.length_append] at hl2
    show lcIn D te r ((wipe σ vs).set j (some (.int (0 + ((i : Nat) : Int))))) H _
    rw [Int.zero_add, flatMap_succ]
    exact hb i (by omega) B1 H1 D (e0.trans s1.bb) k1 hD _ H c (by omega) _ fun H'' c' => c'
  · obtain ⟨B2, s2, k2, g2⟩ := cq_done k1 hD hz c
    exact q _ B2 H (s1.trans s2) k2 g2
end
end Dx

/-! dict comprehensions over data; turns of lists and tuples -/
namespace Dx
open PySem PySem.Spec PyProof.Rows L2 Evl Cn
section
variable {K : PySem.W.Frag} {a : Addr} {xs : List V} {H1 : Hp} {Qd : Hp → Prop} {body : V → Hp → (Hp → Prop) → Prop}
/-- the turns of a list -/
theorem w_lst (I : Nat → Hp → Prop) (h0 : I 0 H1) (hl : ∀ i H, I i H → SqL K H a xs) (hs : ∀ i x H, xs[i]? = some x → I i H → body x H (I (i + 1))) (hd : ∀ H, I xs.length H → Qd H) :
    ∃ W : Nat → Nat → Hp → Prop, (∃ m, W 0 m H1) ∧ ∀ i m H, W i m H → ((Itl K a).stop i H ∧ Qd H) ∨ ((Itl K a).go i H ∧ ∃ N2 : Hp → Prop, (∀ H', N2 H' → ∃ m', m' < m ∧ W (i + 1) m' H') ∧ ∀ x H', (Itl K a).yld i H x H' → body x H' N2) := by
  refine ⟨fun i m H => m + i = xs.length ∧ I i H, ⟨xs.length, rfl, h0⟩, ?_⟩
  rintro i m H ⟨e, p⟩
  have st := hl i H p
  rcases Nat.lt_or_ge i xs.length with h | h
  · have hx : xs[i]? = some xs[i] := List.getElem?_eq_getElem h
    refine .inr ⟨⟨xs, _, st, hx⟩, I (i + 1), fun H' p' => ⟨xs.length - (i + 1), by omega, by omega, p'⟩, ?_⟩
    rintro x H' ⟨e1, e2⟩
    rw [e1]
    exact hs i x H (e2 xs st) p
  · refine .inl ⟨⟨xs, st, h⟩, hd H ?_⟩
    obtain rfl : i = xs.length := by omega
    exact p
/-- the turns of a tuple -/
theorem w_tup (I : Nat → Hp → Prop) (h0 : I 0 H1) (hl : ∀ i H, I i H → SqT K H a xs) (hs : ∀ i x H, xs[i]? = some x → I i H → body x H (I (i + 1))) (hd : ∀ H, I xs.length H → Qd H) :
    ∃ W : Nat → Nat → Hp → Prop, (∃ m, W 0 m H1) ∧ ∀ i m H, W i m H → ((Itt K a).stop i H ∧ Qd H) ∨ ((Itt K a).go i H ∧ ∃ N2 : Hp → Prop, (∀ H', N2 H' → ∃ m', m' < m ∧ W (i + 1) m' H') ∧ ∀ x H', (Itt K a).yld i H x H' → body x H' N2) := by
  refine ⟨fun i m H => m + i = xs.length ∧ I i H, ⟨xs.length, rfl, h0⟩, ?_⟩
  rintro i m H ⟨e, p⟩
  have st := hl i H p
  rcases Nat.lt_or_ge i xs.length with h | h
  · have hx : xs[i]? = some xs[i] := List.getElem?_eq_getElem h
    refine .inr ⟨⟨xs, _, st, hx⟩, I (i + 1), fun H' p' => ⟨xs.length - (i + 1), by omega, by omega, p'⟩, ?_⟩
    rintro x H' ⟨e1, e2⟩
    rw [e1]
    exact hs i x H (e2 xs st) p
  · refine .inl ⟨⟨xs, st, h⟩, hd H ?_⟩
    obtain rfl : i = xs.length := by omega
    exact p
end
section
variable {F : Fm} {K : PySem.W.Frag} {σ : L2.St} {B : Hp} {tl tk tv : TE} {j : Nat} {ds : List PyData} {vs : List Nat}
/-- the dict that grows at D -/
def Dq (F : Fm) (B1 H1 : Hp) (D : Addr) (m : Mp) (H' : Hp) : Prop := ∃ B', Step F.M B1 H1 B' H' ∧ Ok F B' H' ∧ B' D = none ∧ H' D = some (.dT (toK m))
theorem dq_start {B1 H1 : Hp} {D : Addr} (k : Ok F B1 H1) (hD : H1 D = none) : Dq F B1 H1 D [] (upd H1 D (.dT [])) := by
  have hb : B1 D = none := fresh_back k.e hD
  have s : Step F.M B1 H1 B1 (upd H1 D (.dT [])) := ⟨Ex.refl B1, fun a o h => by rw [upd_ne (ne_of_none h hb)]; exact k.e a o h, fun a o _ h => by rw [upd_ne (ne_of_none h hD)]; exact h, fun a h _ => h, fun a n => by
    rw [upd_ne (show a ≠ D from fun z => n (by rw [z]; exact hD))]
    exact n, fun a n => n.upd fun z => n.ne (z ▸ hD)⟩
  exact ⟨B1, s, k.next s (F.up _ _ (Ex.new hD) k.j), hb, upd_same⟩
theorem dq_done {B1 H1 H' : Hp} {D : Addr} {m : Mp} (k1 : Ok F B1 H1) (hD : H1 D = none) (c : Dq F B1 H1 D m H') : ∃ B2, Step F.M B1 H1 B2 H' ∧ Ok F B2 H' ∧ DicV m (.ref D) B2 := by
  obtain ⟨B', s, k, hb, hd⟩ := c
  have s2 : Step F.M B1 H1 (upd B' D (.dT (toK m))) H' := ⟨s.bb.trans (Ex.new hb), fun a o h => by
    by_cases e : a = D
    · subst e
      rw [upd_same] at h
      rw [hd]
      exact h
    · rw [upd_ne e] at h
      exact k.e a o h, s.keep, fun a h n => by
    rw [upd_ne (show a ≠ D from fun z => n.ne (by rw [z]; exact hD))]
    exact s.sep a h n, s.live, s.liv⟩
  exact ⟨_, s2, k1.next s2 k.j, D, rfl, upd_same⟩
/-- the keys as they come, each once -/
def rowM (kf : PyData → List Int) (n : Int) (ds : List PyData) : Mp := ds.map fun d => (kf d, n)
theorem pt_new {m : Mp} {k : List Int} {v : Int} (h : lkI m k = none) : ptI m k v = m ++ [(k, v)] := by
  induction m with
  | nil => rfl
  | cons p m ih =>
    have h2 := lkI_none.mp h
    unfold ptI
    rw [if_neg (h2 p List.mem_cons_self), ih (lkI_none.mpr fun q hq => h2 q (List.mem_cons_of_mem _ hq))]
    rfl
/-- {key: n for x in data} -/
theorem ev_dcD (kf : PyData → List Int) (n : Int) (h : EV F tl σ B (SqV K (DDs K ds))) (hz : ds.length ≤ 16777216) (hn : (ds.map kf).Nodup) (hw : ∀ x, wipe ((wipe σ vs).set j (some x)) vs = wipe σ vs)
    (hk : ∀ d v B1, d ∈ ds → Ex B B1 → Dd K B1 v d → EV F tk ((wipe σ vs).set j (some v)) B1 (KeyV (kf d)))
    (he : ∀ d v B1, d ∈ ds → Ex B B1 → Dd K B1 v d → ED F K tv ((wipe σ vs).set j (some v)) B1 (.int n)) :
    EV F (tDcT (iSeq K tl) (gName j) (fun _ H Q => Q true H) tk tv vs) σ B (DicV (rowM kf n ds)) := fun B0 e0 H0 k0 Q q => by
  refine h B0 e0 H0 k0 _ fun v B1 H1 s1 k1 pv => ?_
  obtain ⟨l, us, rfl, hl, ps⟩ := pv
  have ps' : DdAll K B1 us ds := ps
  have turn : ∀ (D : Addr), H1 D = none → ∀ i x H', us[i]? = some x → Dq F B1 H1 D (rowM kf n (ds.take i)) H' → gName j x (wipe σ vs) H' fun σ2 H2 => wipe σ2 vs = wipe σ vs ∧ (fun (_ : L2.St) H (Q : Bool → Hp → Prop) => Q true H) σ2 H2 fun b H3 =>
      if b = true then tk σ2 H3 fun y H4 => tv σ2 H4 fun z H5 => ∃ (kvs : List (List Key × V)) (k : List Key) (c : Addr), y = .ref c ∧ H5 c = some (.tup (k.map kV)) ∧ H5 D = some (.dT kvs) ∧ kvs.length < sizeLine ∧ Dq F B1 H1 D (rowM kf n (ds.take (i + 1))) (upd H5 D (.dT (putK kvs k z))) else Dq F B1 H1 D (rowM kf n (ds.take (i + 1))) H3 := by
    intro D hD i x H' hx c
    obtain ⟨d, hd, hdv⟩ := ps'.getv hx
    have hm : d ∈ ds := List.mem_of_getElem? hd
    have hi : i < ds.length := (List.getElem?_eq_some_iff.mp hd).1
    refine ⟨hw x, ?_⟩
    show tk ((wipe σ vs).set j (some x)) H' _
    obtain ⟨B', s, k, hb, hd3⟩ := c
    have nm : ¬ F.M D := fun m => (F.lv H1 D k1.j m).ne hD
    have lv : Liv H' D := ⟨_, hd3, trivial⟩
    refine hk d x B' hm ((e0.trans s1.bb).trans s.bb) (hdv.up s.bb) B' (Ex.refl B') H' k _ fun y B4 H4 s4 k4 ⟨cA, ey, gc⟩ => ?_
    refine he d x B4 hm (((e0.trans s1.bb).trans s.bb).trans s4.bb) (hdv.up (s.bb.trans s4.bb)) B4 (Ex.refl B4) H4 k4 _ fun z B5 H5 s5 k5 gz => ?_
    obtain rfl := dd_int gz
    have hd5 : H5 D = some (.dT (toK (rowM kf n (ds.take i)))) := s5.keep D _ nm (s4.keep D _ nm hd3)
    have lv4 : Liv H4 D := s4.liv D lv
    have hb5 : B5 D = none := s5.sep D (s4.sep D hb lv) lv4
    refine ⟨_, kI (kf d), cA, ey, by rw [kV_kI]; exact k5.e _ _ (s5.bb _ _ gc), hd5, ?_, ?_⟩
    · rw [sizeLine_eq]
      show (List.map _ (List.map _ (ds.take i))).length < _
      rw [List.length_map, List.length_map, List.length_take]
      omega
    · have hnd : Nd (rowM kf n (ds.take i)) := by
        unfold Nd rowM
        rw [List.map_map]
        have : (ds.take i).map ((fun x : List Int × Int => x.1) ∘ fun d => (kf d, n)) = (ds.map kf).take i := by rw [List.map_take]; rfl
        rw [this]
        exact hn.sublist (List.take_sublist _ _)
      have hno : lkI (rowM kf n (ds.take i)) (kf d) = none := lkI_none.mpr fun p hp => by
        obtain ⟨d', hd', rfl⟩ := List.mem_map.mp hp
        obtain ⟨j', hj', e'⟩ := List.getElem_of_mem hd'
        rw [List.length_take] at hj'
        intro ee
        have h1 : (ds.map kf)[j']? = some (kf d') := by
          rw [List.getElem?_map, ← e', List.getElem_take, List.getElem?_eq_getElem (by omega)]
          rfl
        have h2 : (ds.map kf)[i]? = some (kf d) := by rw [List.getElem?_map, hd]; rfl
        have h3 := (List.getElem?_inj (by rw [List.length_map]; omega) hn).mp ((h1.trans (congrArg some ee)).trans h2.symm)
        omega
      rw [put_toK hnd, pt_new hno]
      have e2 : rowM kf n (ds.take (i + 1)) = rowM kf n (ds.take i) ++ [(kf d, n)] := by
        unfold rowM
        rw [take_snoc hd, List.map_append]
        rfl
      rw [e2]
      have st : Step F.M B1 H1 B5 H5 := (s.trans s4).trans s5
      have s6 : Step F.M B1 H1 B5 (upd H5 D (.dT (toK (rowM kf n (ds.take i) ++ [(kf d, n)])))) := ⟨st.bb, fun a o h => by rw [upd_ne (ne_of_none h hb5)]; exact k5.e a o h, fun a o n h => by rw [upd_ne (ne_of_none h hD)]; exact st.keep a o n h, st.sep, fun a n => by
        rw [upd_ne (show a ≠ D from fun z => n (by rw [z]; exact hD))]
        exact st.live a n, fun a n => (st.liv a n).upd fun z => n.ne (z ▸ hD)⟩
      exact ⟨B5, s6, k1.next s6 (F.fr H5 D _ k5.j nm), hb5, upd_same⟩
  have fin : ∀ (D : Addr), H1 D = none → ∀ H', Dq F B1 H1 D (rowM kf n (ds.take us.length)) H' → Q (.ref D) H' := by
    intro D hD H' c
    rw [ps'.len, List.take_length] at c
    obtain ⟨B2, s2, k2, g2⟩ := dq_done k1 hD c
    exact q _ B2 H' (s1.trans s2) k2 g2
  refine ⟨l, rfl, ?_⟩
  rcases hl with hl | hl
  · refine .inl ⟨⟨us, ex_l k1.e hl⟩, fun D hD => w_lst (K := K) (xs := us) (fun i => Dq F B1 H1 D (rowM kf n (ds.take i))) (dq_start k1 hD) (fun i H' c => ?_) (fun i x H' hx c => turn D hD i x H' hx c) (fun H' c => fin D hD H' c)⟩
    obtain ⟨B', s, k, _⟩ := c
    exact ex_l k.e (ex_l s.bb hl)
  · refine .inr ⟨⟨us, ex_t k1.e hl⟩, fun D hD => w_tup (K := K) (xs := us) (fun i => Dq F B1 H1 D (rowM kf n (ds.take i))) (dq_start k1 hD) (fun i H' c => ?_) (fun i x H' hx c => turn D hD i x H' hx c) (fun H' c => fin D hD H' c)⟩
    obtain ⟨B', s, k, _⟩ := c
    exact ex_t k.e (ex_t s.bb hl)
end
end Dx

/-! loops whose word speaks of the slots, the data and the heap: ranges, data -/
namespace Dx
open PySem PySem.Spec PyProof.Rows L2 Evl
section
variable {F : Fm} {K : PySem.W.Frag} {σ : L2.St} {B H : Hp} {D : Ends} {tb tz : TS} {tl te : TE} {j : Nat} {ds : List PyData}
/-- where a turn goes on -/
def Nx (Bb : Hp) (J : L2.St → Hp → Hp → Prop) : L2.St → Hp → Prop := fun σ2 H2 => ∃ B2, Ex Bb B2 ∧ J σ2 B2 H2
theorem os_rng2 {ta : TA} {lo n : Int} (ok : Ok F B H) (h : EDs F K ta σ B [.int lo, .int n]) (hn : (-4611686018427387904 ≤ lo ∧ lo < 4611686018427387904) ∧ -4611686018427387904 ≤ n ∧ n < 4611686018427387904) (J : Nat → L2.St → Hp → Hp → Prop) (h0 : ∀ B1 H1, Step F.M B H B1 H1 → Ok F B1 H1 → J 0 σ B1 H1)
    (hs : ∀ Bb (i : Nat) σ' B1 H1, Ex B Bb → lo + (i : Int) < n → Ex Bb B1 → J i σ' B1 H1 → tb { D with nx := Nx Bb (J (i + 1)), ct := Nx Bb (J (i + 1)), bk := D.nx } (σ'.set j (some (.int (lo + (i : Int))))) H1)
    (hd : ∀ σ' B1 H1, Ex B B1 → J (n - lo).toNat σ' B1 H1 → D.nx σ' H1) : tFor (iRng2 ta) (gName j) tb D σ H := by
  refine h B (Ex.refl B) H ok _ fun vs B1 H1 s1 k1 p => ?_
  obtain rfl := dds2 p
  exact ⟨lo, n, rfl, ⟨by omega, by omega, by omega, by omega⟩, for_range (lo := lo) (n := (n - lo).toNat) (fun i => Nx B1 (J i)) ⟨B1, Ex.refl B1, h0 B1 H1 s1 k1⟩ (fun i σ' H' hi ⟨B2, e2, q⟩ => hs B1 i σ' B2 H' s1.bb (by omega) e2 q) fun σ' H' ⟨B2, e2, q⟩ => hd σ' B2 H' (s1.bb.trans e2) q⟩
theorem os_rng1 {ta : TA} {n : Int} (ok : Ok F B H) (h : EDs F K ta σ B [.int n]) (hn : -4611686018427387904 ≤ n ∧ n < 4611686018427387904) (J : Nat → L2.St → Hp → Hp → Prop) (h0 : ∀ B1 H1, Step F.M B H B1 H1 → Ok F B1 H1 → J 0 σ B1 H1)
    (hs : ∀ Bb (i : Nat) σ' B1 H1, Ex B Bb → (i : Int) < n → Ex Bb B1 → J i σ' B1 H1 → tb { D with nx := Nx Bb (J (i + 1)), ct := Nx Bb (J (i + 1)), bk := D.nx } (σ'.set j (some (.int (i : Int)))) H1)
    (hd : ∀ σ' B1 H1, Ex B B1 → J n.toNat σ' B1 H1 → D.nx σ' H1) : tFor (iRng1 ta) (gName j) tb D σ H := by
  refine h B (Ex.refl B) H ok _ fun vs B1 H1 s1 k1 p => ?_
  have p' : vs = [V.int n] := ddAll_ints (k := [n]) p
  refine ⟨n, p', by omega, by omega, for_range (lo := 0) (n := n.toNat) (fun i => Nx B1 (J i)) ⟨B1, Ex.refl B1, h0 B1 H1 s1 k1⟩ (fun i σ' H' hi ⟨B2, e2, q⟩ => ?_) fun σ' H' ⟨B2, e2, q⟩ => hd σ' B2 H' (s1.bb.trans e2) q⟩
  show tb _ (σ'.set j (some (.int ((0 : Int) + (i : Int))))) H'
  rw [Int.zero_add]
  exact hs B1 i σ' B2 H' s1.bb (by omega) e2 q
theorem oq_rng2 {ta : TA} {lo n : Int} (ok : Ok F B H) (h : EDs F K ta σ B [.int lo, .int n]) (hn : (-4611686018427387904 ≤ lo ∧ lo < 4611686018427387904) ∧ -4611686018427387904 ≤ n ∧ n < 4611686018427387904) (J : Nat → L2.St → Hp → Hp → Prop) (h0 : ∀ B1 H1, Step F.M B H B1 H1 → Ok F B1 H1 → J 0 σ B1 H1)
    (hs : ∀ Bb (i : Nat) σ' B1 H1, Ex B Bb → lo + (i : Int) < n → Ex Bb B1 → J i σ' B1 H1 → tb { D with nx := Nx Bb (J (i + 1)), ct := Nx Bb (J (i + 1)), bk := tz D } (σ'.set j (some (.int (lo + (i : Int))))) H1)
    (hd : ∀ σ' B1 H1, Ex B B1 → J (n - lo).toNat σ' B1 H1 → tz D σ' H1) : tSeq (tFor (iRng2 ta) (gName j) tb) tz D σ H := os_rng2 (D := { D with nx := tz D }) ok h hn J h0 hs hd
theorem oq_rng1 {ta : TA} {n : Int} (ok : Ok F B H) (h : EDs F K ta σ B [.int n]) (hn : -4611686018427387904 ≤ n ∧ n < 4611686018427387904) (J : Nat → L2.St → Hp → Hp → Prop) (h0 : ∀ B1 H1, Step F.M B H B1 H1 → Ok F B1 H1 → J 0 σ B1 H1)
    (hs : ∀ Bb (i : Nat) σ' B1 H1, Ex B Bb → (i : Int) < n → Ex Bb B1 → J i σ' B1 H1 → tb { D with nx := Nx Bb (J (i + 1)), ct := Nx Bb (J (i + 1)), bk := tz D } (σ'.set j (some (.int (i : Int)))) H1)
    (hd : ∀ σ' B1 H1, Ex B B1 → J n.toNat σ' B1 H1 → tz D σ' H1) : tSeq (tFor (iRng1 ta) (gName j) tb) tz D σ H := os_rng1 (D := { D with nx := tz D }) ok h hn J h0 hs hd
/-- over what stands as a list or tuple of data -/
theorem os_forD {g : TG} (ok : Ok F B H) (h : EV F tl σ B (SqV K (DDs K ds))) (J : Nat → L2.St → Hp → Hp → Prop) (hj : ∀ i σ B H, J i σ B H → Ex B H) (h0 : ∀ B1 H1, Step F.M B H B1 H1 → Ok F B1 H1 → J 0 σ B1 H1)
    (hs : ∀ Bb n d v σ' B1 H1, ds[n]? = some d → Ex B Bb → Ex Bb B1 → Dd K B1 v d → J n σ' B1 H1 → g v σ' H1 fun σ2 H2 => tb { D with nx := Nx Bb (J (n + 1)), ct := Nx Bb (J (n + 1)), bk := D.nx } σ2 H2)
    (hd : ∀ σ' B1 H1, Ex B B1 → J ds.length σ' B1 H1 → D.nx σ' H1) : tFor (iSeq K tl) g tb D σ H := by
  refine h B (Ex.refl B) H ok _ fun v B1 H1 s1 k1 pv => ?_
  obtain ⟨l, vs, rfl, hl, ps⟩ := pv
  have ps' : DdAll K B1 vs ds := ps
  have turn : ∀ n x σ' H', vs[n]? = some x → Nx B1 (J n) σ' H' → g x σ' H' fun σ2 H2 => tb { D with nx := Nx B1 (J (n + 1)), ct := Nx B1 (J (n + 1)), bk := D.nx } σ2 H2 := by
    rintro n x σ' H' hx ⟨B2, e2, q⟩
    obtain ⟨d, hd, hdv⟩ := ps'.getv hx
    exact hs B1 n d x σ' B2 H' hd s1.bb e2 (hdv.up e2) q
  have fin : ∀ σ' H', Nx B1 (J vs.length) σ' H' → D.nx σ' H' := fun σ' H' ⟨B2, e2, q⟩ => hd σ' B2 H' (s1.bb.trans e2) (by rw [← ps'.len]; exact q)
  refine ⟨l, rfl, ?_⟩
  rcases hl with hl | hl
  · exact .inl ⟨⟨vs, ex_l k1.e hl⟩, for_list (K := K) (xs := vs) (fun n => Nx B1 (J n)) ⟨B1, Ex.refl B1, h0 B1 H1 s1 k1⟩ (fun n σ' H' _ ⟨B2, e, q⟩ => ex_l (hj _ _ _ _ q) (ex_l e hl)) turn fin⟩
  · exact .inr ⟨⟨vs, ex_t k1.e hl⟩, for_tup (K := K) (xs := vs) (fun n => Nx B1 (J n)) ⟨B1, Ex.refl B1, h0 B1 H1 s1 k1⟩ (fun n σ' H' _ ⟨B2, e, q⟩ => ex_t (hj _ _ _ _ q) (ex_t e hl)) turn fin⟩
theorem oq_forD {g : TG} (ok : Ok F B H) (h : EV F tl σ B (SqV K (DDs K ds))) (J : Nat → L2.St → Hp → Hp → Prop) (hj : ∀ i σ B H, J i σ B H → Ex B H) (h0 : ∀ B1 H1, Step F.M B H B1 H1 → Ok F B1 H1 → J 0 σ B1 H1)
    (hs : ∀ Bb n d v σ' B1 H1, ds[n]? = some d → Ex B Bb → Ex Bb B1 → Dd K B1 v d → J n σ' B1 H1 → g v σ' H1 fun σ2 H2 => tb { D with nx := Nx Bb (J (n + 1)), ct := Nx Bb (J (n + 1)), bk := tz D } σ2 H2)
    (hd : ∀ σ' B1 H1, Ex B B1 → J ds.length σ' B1 H1 → tz D σ' H1) : tSeq (tFor (iSeq K tl) g tb) tz D σ H := os_forD (D := { D with nx := tz D }) ok h J hj h0 hs hd
end
/-! ### a list of one's own of ints, read while it stands -/
section
variable {K : PySem.W.Frag} {B0 H0 B H B5 H5 : Hp} {na : Addr} {xs : List V} {σ : L2.St} {te : TE} {t : TT} {tu tw tz : TS} {b : Bool} {i : Nat} {D : Ends} {P : PV}
/-- what stands at x stands just so, and is one's own -/
def Fm.mine (x : Addr) (o : HO) (ho : nT o := by trivial) : Fm := ⟨fun a => a = x, fun H => H x = some o, fun _ _ e h => e _ _ h, fun H a h e => ⟨o, by rw [show a = x from e]; exact h, ho⟩, fun H a o' h n => (by rw [upd_ne (Ne.symm n)]; exact h)⟩
theorem S1.obk (m : S1 B0 H0 B H na xs) : Ok (Fm.mine na (.lst xs)) B H := ⟨m.st.bh, m.hn, fun a e => by rw [show a = na from e]; exact m.bn⟩
theorem step_mine {fa : Addr} (h0 : H0 fa = none) (s : Step (fun _ => False) B0 H0 B H) (t : Step (fun a => a = fa) B H B5 H5) : Step (fun _ => False) B0 H0 B5 H5 :=
  ⟨s.bb.trans t.bb, t.bh, fun a o n h => t.keep a o (fun z => by rw [z, h0] at h; cases h) (s.keep a o n h), fun a h n => t.sep a (s.sep a h n) (s.liv a n), fun a n => t.live a (s.live a n), fun a n => t.liv a (s.liv a n)⟩
theorem S1.obp (m : S1 B0 H0 B H na xs) (s : Step (fun a => a = na) B H B5 H5) (k : Ok (Fm.mine na (.lst xs)) B5 H5) : S1 B0 H0 B5 H5 na xs := ⟨step_mine m.n0 m.st s, m.n0, k.av na rfl, k.j⟩
theorem os_if (m : S1 B0 H0 B H na xs) (h : ETt (Fm.mine na (.lst xs)) t σ B b) (h1 : b = true → ∀ B5 H5, S1 B0 H0 B5 H5 na xs → Ex B B5 → tu D σ H5) (h2 : b = false → ∀ B5 H5, S1 B0 H0 B5 H5 na xs → Ex B B5 → tw D σ H5) : tIfS t tu tw D σ H := h B (Ex.refl B) H m.obk _ fun B5 H5 s5 k5 => by
  cases b with
  | true =>
    show tu D σ H5
    exact h1 rfl B5 H5 (m.obp s5 k5) s5.bb
  | false =>
    show tw D σ H5
    exact h2 rfl B5 H5 (m.obp s5 k5) s5.bb
theorem oq_asg (m : S1 B0 H0 B H na xs) (h : EV (Fm.mine na (.lst xs)) te σ B P) (k : ∀ v B5 H5, S1 B0 H0 B5 H5 na xs → Ex B B5 → P v B5 → tz D (σ.set i (some v)) H5) : tSeq (tAsg te (gName i)) tz D σ H := h B (Ex.refl B) H m.obk _ fun v B5 H5 s5 k5 p => k v B5 H5 (m.obp s5 k5) s5.bb p
/-- k in found, k not in found: found the list of ints that grows -/
theorem et_ninI {S : List Int} {x : Int} (hi : σ[i]? = some (some (.ref na))) (h : ED (Fm.mine na (.lst xs)) K te σ B (.int x)) (hx : xs = S.map V.int) : ETt (Fm.mine na (.lst xs)) (tTest (tOp (rIn K true) te (tVar i))) σ B (!S.contains x) := fun B1 e0 H j Q q =>
  h B1 e0 H j _ fun v B2 H2 s2 j2 g => by
    obtain rfl := dd_int g
    refine ⟨.ref na, hi, na, xs, rfl, .inl (sq_of j2.j), rfl, ?_, _, rfl, ?_⟩
    · rw [hx]
      exact List.all_eq_true.mpr fun y hy => by
        obtain ⟨s, _, rfl⟩ := List.mem_map.mp hy
        rfl
    · have e : inV (.int x) xs = S.contains x := by
        rw [hx]
        unfold inV
        rw [List.any_map]
        rw [Bool.eq_iff_iff, List.any_eq_true, List.contains_iff_mem]
        constructor
        · rintro ⟨y, hy, e⟩
          have e' : y = x := by simpa [eqV] using e
          exact e' ▸ hy
        · intro hx
          exact ⟨x, hx, by simp [eqV]⟩
      show Q (!inV (.int x) xs) H2
      rw [e]
      exact q B2 H2 s2 j2
end
end Dx

/-! sorted of dicts keyed by tuples of ints, of lists of tuples of ints, as data -/
namespace Dx
open PySem PySem.Spec PyProof.Rows L2 Evl
def isIs (xs : List V) : Bool := xs.all fun v => match v with | .int _ => true | _ => false
theorem isIs_map (k : List Int) : isIs (k.map V.int) = true := by
  unfold isIs
  rw [List.all_map]
  exact List.all_eq_true.mpr fun _ _ => rfl
/-- the data, and every tuple of ints that stands -/
def seeT (B H : Hp) : Hp := fun a => match B a with
  | some o => some o
  | none => match H a with
    | some (.tup xs) => if isIs xs = true then some (.tup xs) else none
    | _ => none
section
variable {F : Fm} {M : Addr → Prop} {B H : Hp}
theorem see_old : Ex B (seeT B H) := fun a o h => by
  unfold seeT
  rw [h]
theorem see_in (e : Ex B H) : Ex (seeT B H) H := fun a o h => by
  unfold seeT at h
  cases hb : B a with
  | some u =>
    rw [hb] at h
    have h' : some u = some o := h
    rw [← h']
    exact e _ _ hb
  | none =>
    rw [hb] at h
    cases hh : H a with
    | none =>
      rw [hh] at h
      cases h
    | some u =>
      rw [hh] at h
      cases u with
      | tup xs =>
        have h' : (if isIs xs = true then some (HO.tup xs) else none) = some o := h
        split at h'
        · exact h'
        · cases h'
      | _ => cases h
theorem see_at {a : Addr} {k : List Int} (e : Ex B H) (h : H a = some (.tup (k.map V.int))) : seeT B H a = some (.tup (k.map V.int)) := by
  unfold seeT
  cases hb : B a with
  | some u =>
    show some u = _
    rw [← e _ _ hb]
    exact h
  | none =>
    show (match H a with | some (.tup xs) => if isIs xs = true then some (HO.tup xs) else none | _ => none) = _
    rw [h]
    show (if isIs (k.map V.int) = true then some (HO.tup (k.map V.int)) else none) = _
    rw [if_pos (isIs_map k)]
theorem see_no {a : Addr} (h : B a = none) (n : Liv H a) : seeT B H a = none := by
  obtain ⟨o, ho, hn⟩ := n
  unfold seeT
  rw [h]
  show (match H a with | some (.tup xs) => if isIs xs = true then some (HO.tup xs) else none | _ => none) = _
  rw [ho]
  cases o with
  | tup xs => cases hn
  | _ => rfl
theorem see_step (e : Ex B H) : Step M B H (seeT B H) H := ⟨see_old, see_in e, fun _ _ _ h => h, fun a h n => see_no h n, fun _ h => h, fun _ h => h⟩
theorem Ok.see (k : Ok F B H) : Ok F (seeT B H) H := k.next (see_step k.e) k.j
end
/-- a tuple of ints, as data -/
def rowD (k : List Int) : PyData := .tuple (k.map .int)
theorem dd_rowD {K : PySem.W.Frag} {B : Hp} {a : Addr} {k : List Int} (h : B a = some (.tup (k.map V.int))) (hl : k.length ≤ 1000) : Dd K B (.ref a) (rowD k) := .tup (.inl h) (by rw [List.length_map, sizeLine_eq]; omega) (by
  clear h hl
  induction k with
  | nil => exact .nil
  | cons x k ih => exact .cons (.int x) ih)
theorem paired_dd {K : PySem.W.Frag} {B H : Hp} (e : Ex B H) : ∀ {ys : List V} {zs : List (List Int)}, Paired (fun y z => ∃ t, y = V.ref t ∧ H t = some (.tup (z.map V.int))) ys zs → (∀ z ∈ zs, z.length ≤ 1000) → DdAll K (seeT B H) ys (zs.map rowD)
  | _, _, .nil, _ => .nil
  | _, _, .cons (b := z) ⟨t, et, ht⟩ r, hl => by
    rw [et]
    exact .cons (dd_rowD (see_at e ht) (hl z List.mem_cons_self)) (paired_dd e r fun z hz => hl z (List.mem_cons_of_mem _ hz))
theorem bt_sorted : bootBuiltins "sorted" = some (.builtin "sorted") := by decide +kernel
theorem cr_sortDTK {X : Cx} (K : PySem.W.Frag) (hc : X.calm = true) : CallR X (.builtin "sorted") (rSortDT 5) := cr_sortDT (by decide) hc
theorem cr_sortTIK {X : Cx} (K : PySem.W.Frag) (hK : X.K = K := by rfl) : CallR X (.builtin "sorted") (rSortTI K 5) := cr_sortTI K (by decide) hK
section
variable {F : Fm} {K : PySem.W.Frag} {σ : L2.St} {B : Hp} {te : TE} {m : Mp} {n : Nat}
/-- what is in ascending order -/
abbrev Asc (zs : List (List Int)) : Prop := zs.Pairwise fun x y => HT.lexLt y x = false
theorem ev_sortD (h : EV F te σ B (DicV m)) (hn : ∀ p ∈ m, p.1.length = n) (hl : n ≤ 1000) (hz : m.length ≤ 16777216) : EV F (tCB (rSortDT n) (tCons te tNil)) σ B (fun v B' => ∃ zs : List (List Int), zs.Perm (m.map (·.1)) ∧ Asc zs ∧ Dd K B' v (.list (zs.map rowD))) := fun B1 e0 H1 k1 Q q =>
  h B1 e0 H1 k1 _ fun v B2 H2 s2 k2 ⟨a, ea, ga⟩ => by
    refine ⟨a, toK m, m.map (·.1), by rw [ea], k2.e _ _ ga, ?_, fun k hk => ?_, fun ys zs p hp hs hpr hnew => ?_⟩
    · unfold toK
      rw [List.map_map, List.map_map]
      rfl
    · obtain ⟨p, hp, rfl⟩ := List.mem_map.mp hk
      exact hn p hp
    · have k3 : Ok F (seeT B2 H2) H2 := k2.see
      have hlen : zs.length ≤ 16777216 := by
        rw [hp.length_eq, List.length_map]
        exact hz
      have hzl : ∀ z ∈ zs, z.length ≤ 1000 := fun z hz => by
        obtain ⟨p, hp', rfl⟩ := List.mem_map.mp (hp.mem_iff.mp hz)
        rw [hn p hp']
        exact hl
      have dd := paired_dd (K := K) k2.e hpr hzl
      refine q (.ref p) _ _ ((s2.trans (see_step k2.e)).trans (Step.alloc k3.e hnew)) (k3.alloc hnew) ⟨zs, hp, hs, .lst upd_same ?_ (dd.up (Ex.new (fresh_back k3.e hnew)))⟩
      rw [dd.len, List.length_map, sizeLine_eq]
      exact hlen
theorem ddAll_perm : ∀ {xs ys : List V}, ys.Perm xs → ∀ {ds : List PyData}, DdAll K B xs ds → ∃ es, es.Perm ds ∧ DdAll K B ys es := by
  intro xs ys p
  induction p with
  | nil =>
    intro ds h
    exact ⟨ds, .refl _, h⟩
  | cons x p ih =>
    intro ds h
    cases h with
    | cons a t =>
      obtain ⟨es, pe, he⟩ := ih t
      exact ⟨_ :: es, pe.cons _, .cons a he⟩
  | swap x y l =>
    intro ds h
    cases h with
    | cons a t =>
      cases t with
      | cons b t => exact ⟨_, .swap _ _ _, .cons b (.cons a t)⟩
  | trans p1 p2 ih1 ih2 =>
    intro ds h
    obtain ⟨es, pe, he⟩ := ih2 h
    obtain ⟨fs, pf, hf⟩ := ih1 he
    exact ⟨fs, pf.trans pe, hf⟩
/-- sorted([..]), the items tuples of d ints: the same items in some order -/
theorem ev_sortL {d : Nat} {zs : List (List Int)} (h : ED F K te σ B (.list (zs.map rowD))) (hd : ∀ z ∈ zs, z.length = d) : EV F (tCB (rSortTI K d) (tCons te tNil)) σ B (fun v B' => ∃ es : List PyData, es.Perm (zs.map rowD) ∧ Dd K B' v (.list es)) := fun B1 e0 H1 k1 Q q =>
  h B1 e0 H1 k1 _ fun v B2 H2 s2 k2 g => by
    obtain ⟨a, xs, rfl, h1, l1, g1⟩ := dd_lst g
    have ex : ∀ x ∈ xs, ∃ ns, TupI K H2 x ns ∧ ns.length = d := fun x hx => by
      obtain ⟨i, hi, rfl⟩ := List.getElem_of_mem hx
      obtain ⟨y, hy, hdd⟩ := g1.getv (List.getElem?_eq_getElem hi)
      rw [List.getElem?_map] at hy
      obtain ⟨z, hz, rfl⟩ := Option.map_eq_some_iff.mp hy
      obtain ⟨t, us, et, ht, _, hu⟩ := dd_tup (show Dd K B2 xs[i] (.tuple (z.map .int)) from hdd)
      rw [ddAll_ints hu] at ht
      exact ⟨z, ⟨t, et, ex_t k2.e ht⟩, hd z (List.mem_of_getElem? hz)⟩
    refine ⟨a, xs, fun x => Classical.epsilon fun ns => TupI K H2 x ns ∧ ns.length = d, rfl, sq_of (k2.e _ _ h1), fun x hx => ?_, fun ys p hp _ hnew => ?_⟩
    · exact Classical.epsilon_spec (ex x hx)
    · obtain ⟨es, pe, he⟩ := ddAll_perm hp g1
      refine q (.ref p) _ _ (s2.trans (Step.alloc k2.e hnew)) (k2.alloc hnew) ⟨es, pe, .lst upd_same ?_ (he.up (Ex.new (fresh_back k2.e hnew)))⟩
      rw [hp.length_eq]
      exact l1
end
end Dx

/-! a dict of one's own: statements that leave it, what is handed over; pairs taken apart -/
namespace Dx
open PySem PySem.Spec PyProof.Rows L2 Evl
section
variable {K : PySem.W.Frag} {B0 H0 B H B5 H5 : Hp} {na : Addr} {m : Mp} {σ : L2.St} {te tl : TE} {t : TT} {tu tw tz : TS} {D : Ends} {i : Nat} {P : PV} {b : Bool}
theorem qd_asg (d : D1 B0 H0 B H na m) (h : EV Fm.pure te σ B P) (k : ∀ v B5 H5, D1 B0 H0 B5 H5 na m → Ex B B5 → P v B5 → tz D (σ.set i (some v)) H5) : tSeq (tAsg te (gName i)) tz D σ H := h B (Ex.refl B) H d.ok _ fun v B5 H5 s5 _ p => k v B5 H5 (d.pass s5) s5.bb p
theorem sd_ifB (d : D1 B0 H0 B H na m) (h : ETt Fm.pure t σ B b) (h1 : b = true → ∀ B5 H5, D1 B0 H0 B5 H5 na m → Ex B B5 → tu D σ H5) (h2 : b = false → ∀ B5 H5, D1 B0 H0 B5 H5 na m → Ex B B5 → tw D σ H5) : tIfS t tu tw D σ H := h B (Ex.refl B) H d.ok _ fun B5 H5 s5 _ => by
  cases b with
  | true =>
    show tu D σ H5
    exact h1 rfl B5 H5 (d.pass s5) s5.bb
  | false =>
    show tw D σ H5
    exact h2 rfl B5 H5 (d.pass s5) s5.bb
theorem D1.data (d : D1 B0 H0 B H na m) : Step (fun _ => False) B0 H0 (upd B na (.dT (toK m))) H ∧ DicV m (.ref na) (upd B na (.dT (toK m))) := by
  refine ⟨⟨d.st.bb.trans (Ex.new d.bn), d.shut.2.1.e, d.st.keep, fun a h n => ?_, d.st.live, d.st.liv⟩, na, rfl, upd_same⟩
  rw [upd_ne (show a ≠ na from fun z => n.ne (z ▸ d.n0))]
  exact d.st.sep a h n
end
/-- a, b = a pair -/
theorem qv_unpP {F : Fm} {K : PySem.W.Frag} {σ : L2.St} {B0 H0 B H : Hp} {D : Ends} {tz : TS} {te : TE} {x y : PyData} {p1 p2 : Nat} (a : At F B0 H0 B H) (h : ED F K te σ B (.tuple [x, y]))
    (q : ∀ u v B1 H1, Ex B B1 → At F B0 H0 B1 H1 → Dd K B1 u x → Dd K B1 v y → tz D ((σ.set p1 (some u)).set p2 (some v)) H1) :
    tSeq (tAsg te (gTup K 2 (gCons (gName p1) (gCons (gName p2) gNil)))) tz D σ H := h B (Ex.refl B) H a.j _ fun w B1 H1 s jj p => by
  obtain ⟨b, us, rfl, hb, _, hus⟩ := dd_tup p
  cases hus with
  | cons hu t =>
    cases t with
    | cons hv t =>
      cases t
      exact ⟨b, _, rfl, ex_t jj.e hb, rfl, _, _, rfl, _, _, rfl, rfl, q _ _ B1 H1 s.bb (a.next s jj) hu hv⟩
end Dx

/-! objects of one's own, any number of them: lists and dicts that change -/
namespace Dx
open PySem PySem.Spec PyProof.Rows L2 Evl
/-- behind (B0, H0): at (B, H), where the objects L are one's own and stand just so -/
structure Ow (F : Fm) (B0 H0 B H : Hp) (L : List (Addr × HO)) : Prop where
  st : Step F.M B0 H0 B H
  k : Ok F B H
  ow : ∀ p ∈ L, H0 p.1 = none ∧ ¬ F.M p.1 ∧ B p.1 = none ∧ H p.1 = some p.2 ∧ nT p.2
  nd : (L.map (·.1)).Nodup
section
variable {F : Fm} {B0 H0 B H B5 H5 : Hp} {L : List (Addr × HO)} {a b : Addr} {o o' u : HO}
theorem ow_nil (k : Ok F B H) : Ow F B H B H [] := ⟨Step.refl k.e, k, fun p hp => (nomatch hp), List.nodup_nil⟩
theorem Ow.pass (w : Ow F B0 H0 B H L) (s : Step F.M B H B5 H5) (k5 : Ok F B5 H5) : Ow F B0 H0 B5 H5 L := ⟨w.st.trans s, k5, fun p hp => by
  obtain ⟨h0, nm, hb, hh, hn⟩ := w.ow p hp
  exact ⟨h0, nm, s.sep _ hb ⟨_, hh, hn⟩, s.keep _ _ nm hh, hn⟩, w.nd⟩
theorem Ow.ne (w : Ow F B0 H0 B H ((a, o) :: L)) {p : Addr × HO} (hp : p ∈ L) : p.1 ≠ a := fun e =>
  (List.nodup_cons.mp (show (a :: L.map (·.1)).Nodup from w.nd)).1 (e ▸ List.mem_map.mpr ⟨p, hp, rfl⟩)
theorem Ow.set (w : Ow F B0 H0 B H ((a, o) :: L)) (o' : HO) (hn : nT o') : Ow F B0 H0 B (L2.upd H a o') ((a, o') :: L) := by
  obtain ⟨h0, nm, hb, hh, _⟩ := w.ow (a, o) List.mem_cons_self
  have eB : Ex B (L2.upd H a o') := fun x u h => by
    rw [upd_ne (ne_of_none h hb)]
    exact w.k.e x u h
  refine ⟨⟨w.st.bb, eB, fun x u n h => ?_, w.st.sep, fun x n => ?_, fun x n => ?_⟩, ⟨eB, F.fr H a o' w.k.j nm, w.k.av⟩, fun p hp => ?_, w.nd⟩
  · rw [upd_ne (ne_of_none h h0)]
    exact w.st.keep x u n h
  · rw [upd_ne (show x ≠ a from fun z => n (z ▸ h0))]
    exact w.st.live x n
  · exact (w.st.liv x n).upd fun z => n.ne (z ▸ h0)
  · rcases List.mem_cons.mp hp with rfl | hp
    · exact ⟨h0, nm, hb, upd_same, hn⟩
    · obtain ⟨g0, gm, gb, gh, gn⟩ := w.ow p (List.mem_cons_of_mem _ hp)
      exact ⟨g0, gm, gb, by rw [upd_ne (w.ne hp)]; exact gh, gn⟩
theorem Ow.new (w : Ow F B0 H0 B H L) (ha : H a = none) (hn : nT o) : Ow F B0 H0 B (L2.upd H a o) ((a, o) :: L) := by
  have h0 : H0 a = none := by
    cases hh : H0 a with
    | none => rfl
    | some u => exact absurd ha (w.st.live a (by rw [hh]; exact fun z => nomatch z))
  have nm : ¬ F.M a := fun m => (F.lv H a w.k.j m).ne ha
  have hb : B a = none := fresh_back w.k.e ha
  have eB : Ex B (L2.upd H a o) := fun x u h => by
    rw [upd_ne (ne_of_none h hb)]
    exact w.k.e x u h
  have nin : ∀ p ∈ L, p.1 ≠ a := fun p hp e => by
    have := (w.ow p hp).2.2.2.1
    rw [e, ha] at this
    cases this
  refine ⟨⟨w.st.bb, eB, fun x u n h => ?_, w.st.sep, fun x n => ?_, fun x n => ?_⟩, ⟨eB, F.fr H a o w.k.j nm, w.k.av⟩, fun p hp => ?_, ?_⟩
  · rw [upd_ne (ne_of_none h h0)]
    exact w.st.keep x u n h
  · rw [upd_ne (show x ≠ a from fun z => n (z ▸ h0))]
    exact w.st.live x n
  · exact (w.st.liv x n).upd fun z => n.ne (z ▸ h0)
  · rcases List.mem_cons.mp hp with rfl | hp
    · exact ⟨h0, nm, hb, upd_same, hn⟩
    · obtain ⟨g0, gm, gb, gh, gn⟩ := w.ow p hp
      exact ⟨g0, gm, gb, by rw [upd_ne (nin p hp)]; exact gh, gn⟩
  · refine List.nodup_cons.mpr ⟨fun hm => ?_, w.nd⟩
    obtain ⟨p, hp, e⟩ := List.mem_map.mp hm
    exact nin p hp e
/-- the first one is handed over to the data -/
theorem Ow.drop (w : Ow F B0 H0 B H ((a, o) :: L)) : Ow F B0 H0 (L2.upd B a o) H L ∧ Ex B (L2.upd B a o) := by
  obtain ⟨h0, nm, hb, hh, hn⟩ := w.ow (a, o) List.mem_cons_self
  have eH : Ex (L2.upd B a o) H := fun x u h => by
    by_cases e : x = a
    · subst e
      rw [upd_same] at h
      rw [← h]
      exact hh
    · rw [upd_ne e] at h
      exact w.k.e x u h
  refine ⟨⟨⟨w.st.bb.trans (Ex.new hb), eH, w.st.keep, fun x h n => ?_, w.st.live, w.st.liv⟩, ⟨eH, w.k.j, fun x m => ?_⟩, fun p hp => ?_, (List.nodup_cons.mp (show (a :: L.map (·.1)).Nodup from w.nd)).2⟩, Ex.new hb⟩
  · rw [upd_ne (show x ≠ a from fun z => n.ne (z ▸ h0))]
    exact w.st.sep x h n
  · rw [upd_ne (show x ≠ a from fun z => nm (z ▸ m))]
    exact w.k.av x m
  · obtain ⟨g0, gm, gb, gh, gn⟩ := w.ow p (List.mem_cons_of_mem _ hp)
    exact ⟨g0, gm, by rw [upd_ne (w.ne hp)]; exact gb, gh, gn⟩
theorem Ow.perm {L' : List (Addr × HO)} (w : Ow F B0 H0 B H L) (p : L'.Perm L) : Ow F B0 H0 B H L' := ⟨w.st, w.k, fun q hq => w.ow q (p.mem_iff.mp hq), (p.map _).nodup_iff.mpr w.nd⟩
theorem Ow.swap (w : Ow F B0 H0 B H ((a, o) :: (b, u) :: L)) : Ow F B0 H0 B H ((b, u) :: (a, o) :: L) := w.perm (.swap _ _ _)
/-- all of them as data, for a look -/
def shutL : Hp → List (Addr × HO) → Hp
  | B, [] => B
  | B, p :: L => shutL (L2.upd B p.1 p.2) L
theorem Ow.shut : ∀ {L : List (Addr × HO)} {B : Hp}, Ow F B0 H0 B H L → Ow F B0 H0 (shutL B L) H [] ∧ Ex B (shutL B L) ∧ ∀ p ∈ L, shutL B L p.1 = some p.2
  | [], B, w => ⟨w, Ex.refl B, fun p hp => (nomatch hp)⟩
  | (a, o) :: L, B, w => by
    obtain ⟨w1, e1⟩ := w.drop
    obtain ⟨w2, e2, g⟩ := w1.shut
    refine ⟨w2, e1.trans e2, fun p hp => ?_⟩
    rcases List.mem_cons.mp hp with rfl | hp
    · exact e2 _ _ upd_same
    · exact g p hp
theorem Ow.look (w : Ow F B0 H0 B H L) (s : Step F.M (shutL B L) H B5 H5) (k5 : Ok F B5 H5) : Ow F B0 H0 B H5 L := by
  have e5 : Ex B H5 := (w.shut.2.1.trans s.bb).trans s.bh
  exact ⟨w.st.trans ⟨Ex.refl B, e5, s.keep, fun _ h _ => h, s.live, s.liv⟩, ⟨e5, k5.j, w.k.av⟩, fun p hp => by
    obtain ⟨g0, gm, gb, gh, gn⟩ := w.ow p hp
    exact ⟨g0, gm, gb, s.keep _ _ gm gh, gn⟩, w.nd⟩
theorem Ow.here (w : Ow F B0 H0 B H ((a, o) :: L)) : H a = some o := (w.ow (a, o) List.mem_cons_self).2.2.2.1
end
section
variable {F : Fm} {K : PySem.W.Frag} {B0 H0 B H : Hp} {L : List (Addr × HO)} {na : Addr} {o : HO} {xs : List V} {m : Mp} {σ : L2.St} {te tl tv ty : TE} {t : TT} {tu tw tz : TS} {D : Ends} {i : Nat} {P : PV} {W : V → Prop} {b : Bool} {d : PyData} {n : Int} {k : List Int}
/-- statements that leave one's own alone -/
theorem wq_asg (w : Ow F B0 H0 B H L) (h : EV F te σ B P) (q : ∀ v B5 H5, Ow F B0 H0 B5 H5 L → Ex B B5 → P v B5 → tz D (σ.set i (some v)) H5) : tSeq (tAsg te (gName i)) tz D σ H := h B (Ex.refl B) H w.k _ fun v B5 H5 s5 k5 p => q v B5 H5 (w.pass s5 k5) s5.bb p
theorem ws_asg (w : Ow F B0 H0 B H L) (h : EV F te σ B P) (q : ∀ v B5 H5, Ow F B0 H0 B5 H5 L → Ex B B5 → P v B5 → D.nx (σ.set i (some v)) H5) : tAsg te (gName i) D σ H := h B (Ex.refl B) H w.k _ fun v B5 H5 s5 k5 p => q v B5 H5 (w.pass s5 k5) s5.bb p
theorem ws_if (w : Ow F B0 H0 B H L) (h : ETt F t σ B b) (h1 : b = true → ∀ B5 H5, Ow F B0 H0 B5 H5 L → Ex B B5 → tu D σ H5) (h2 : b = false → ∀ B5 H5, Ow F B0 H0 B5 H5 L → Ex B B5 → tw D σ H5) : tIfS t tu tw D σ H := h B (Ex.refl B) H w.k _ fun B5 H5 s5 k5 => by
  cases b with
  | true =>
    show tu D σ H5
    exact h1 rfl B5 H5 (w.pass s5 k5) s5.bb
  | false =>
    show tw D σ H5
    exact h2 rfl B5 H5 (w.pass s5 k5) s5.bb
theorem wq_when (w : Ow F B0 H0 B H L) (h : ETt F t σ B b) (h1 : b = true → ∀ B5 H5, Ow F B0 H0 B5 H5 L → Ex B B5 → tu { D with nx := tz D } σ H5) (h2 : b = false → ∀ B5 H5, Ow F B0 H0 B5 H5 L → Ex B B5 → tz D σ H5) : tSeq (tIfS t tu tNext) tz D σ H := ws_if (D := { D with nx := tz D }) w h h1 h2
theorem ws_ret (w : Ow F B0 H0 B H L) (h : EV F te σ B P) (q : ∀ v B5 H5, Ow F B0 H0 B5 H5 L → Ex B B5 → P v B5 → D.rt v H5) : tRet te D σ H := h B (Ex.refl B) H w.k _ fun v B5 H5 s5 k5 p => q v B5 H5 (w.pass s5 k5) s5.bb p
/-- statements that look at one's own; what comes of it needs no heap -/
theorem wl_if (w : Ow F B0 H0 B H L) (h : ETt F t σ (shutL B L) b) (h1 : b = true → ∀ H5, Ow F B0 H0 B H5 L → tu D σ H5) (h2 : b = false → ∀ H5, Ow F B0 H0 B H5 L → tw D σ H5) : tIfS t tu tw D σ H := h _ (Ex.refl _) H w.shut.1.k _ fun B5 H5 s5 k5 => by
  cases b with
  | true =>
    show tu D σ H5
    exact h1 rfl H5 (w.look s5 k5)
  | false =>
    show tw D σ H5
    exact h2 rfl H5 (w.look s5 k5)
theorem wl_when (w : Ow F B0 H0 B H L) (h : ETt F t σ (shutL B L) b) (h1 : b = true → ∀ H5, Ow F B0 H0 B H5 L → tu { D with nx := tz D } σ H5) (h2 : b = false → ∀ H5, Ow F B0 H0 B H5 L → tz D σ H5) : tSeq (tIfS t tu tNext) tz D σ H := wl_if (D := { D with nx := tz D }) w h h1 h2
theorem wl_asg (w : Ow F B0 H0 B H L) (h : EV F te σ (shutL B L) (fun v _ => W v)) (q : ∀ v H5, Ow F B0 H0 B H5 L → W v → tz D (σ.set i (some v)) H5) : tSeq (tAsg te (gName i)) tz D σ H := h _ (Ex.refl _) H w.shut.1.k _ fun v B5 H5 s5 k5 p => q v H5 (w.look s5 k5) p
/-- new ones -/
theorem wq_lst (w : Ow F B0 H0 B H L) (q : ∀ na, Ow F B0 H0 B (upd H na (.lst [])) ((na, .lst []) :: L) → tz D (σ.set i (some (.ref na))) (upd H na (.lst []))) : tSeq (tAsg (tLst tNil) (gName i)) tz D σ H :=
  ⟨Nat.zero_le _, fun na hna => q na (w.new hna trivial)⟩
theorem wq_dict (w : Ow F B0 H0 B H L) (q : ∀ na, Ow F B0 H0 B (upd H na (.dT (toK []))) ((na, .dT (toK [])) :: L) → tz D (σ.set i (some (.ref na))) (upd H na (.dT (toK [])))) : tSeq (tAsg tDNewT (gName i)) tz D σ H :=
  fun na hna => q na (w.new hna trivial)
/-- the first one changes -/
theorem ws_app (w : Ow F B0 H0 B H ((na, .lst xs) :: L)) (hi : σ[i]? = some (some (.ref na))) (h : ED F K te σ B d) (hl : xs.length < 16777216) (q : ∀ v B5 H5, Ow F B0 H0 B5 H5 ((na, .lst (xs ++ [v])) :: L) → Ex B B5 → Dd K B5 v d → D.nx σ H5) : tDrop (tBM K "list" rAppend (tVar i) (tCons te tNil)) D σ H :=
  ⟨.ref na, hi, .inl ⟨rfl, _, sq_of w.here⟩, h B (Ex.refl B) H w.k _ fun v B5 H5 s5 k5 p => ⟨na, xs, v, rfl, rfl, (w.pass s5 k5).here, by rw [sizeLine_eq]; exact hl, q v B5 _ ((w.pass s5 k5).set _ trivial) s5.bb p⟩⟩
theorem ws_put (w : Ow F B0 H0 B H ((na, .dT (toK m)) :: L)) (hi : σ[i]? = some (some (.ref na))) (hv : EV F tv σ B (fun v _ => v = .int n)) (hk : EV F ty σ B (KeyV k)) (nd : Nd m) (hl : m.length < 16777216) (q : ∀ B5 H5, Ow F B0 H0 B5 H5 ((na, .dT (toK (ptI m k n))) :: L) → Ex B B5 → D.nx σ H5) : sDPut (tVar i) ty tv D σ H :=
  hv B (Ex.refl B) H w.k _ fun v B1 H1 s1 j1 ev => ⟨.ref na, hi, hk B1 s1.bb H1 j1 _ fun u B2 H2 s2 j2 ⟨a, eu, g⟩ => by
    have w2 := (w.pass s1 j1).pass s2 j2
    subst ev eu
    refine ⟨na, upd H2 na (.dT (putK (toK m) (kI k) (.int n))), rfl, DPut.t w2.here (by rw [kV_kI]; exact j2.e _ _ g) ?_, ?_⟩
    · rw [sizeLine_eq]
      show (List.map _ m).length < _
      rw [List.length_map]
      exact hl
    · rw [put_toK nd]
      exact q B2 _ (w2.set _ trivial) (s1.bb.trans s2.bb)⟩
/-- the first one, a list, as data -/
theorem Ow.dropL {ds : List PyData} (w : Ow F B0 H0 B H ((na, .lst xs) :: L)) (h : DdAll K B xs ds) (hl : ds.length ≤ 16777216) : Ow F B0 H0 (upd B na (.lst xs)) H L ∧ Ex B (upd B na (.lst xs)) ∧ Dd K (upd B na (.lst xs)) (.ref na) (.list ds) :=
  ⟨w.drop.1, w.drop.2, .lst upd_same (by rw [h.len, sizeLine_eq]; exact hl) (h.up w.drop.2)⟩
theorem Ow.dropD (w : Ow F B0 H0 B H ((na, .dT (toK m)) :: L)) : Ow F B0 H0 (upd B na (.dT (toK m))) H L ∧ Ex B (upd B na (.dT (toK m))) ∧ DicV m (.ref na) (upd B na (.dT (toK m))) :=
  ⟨w.drop.1, w.drop.2, na, rfl, upd_same⟩
end
end Dx

/-! k02: the data that the defs speak of. -/
namespace K12
open PySem PySem.Spec PyProof.Rows L2 Evl Ex Dx
open PySem.PyData (strOk)
/-! ### data of limited depth -/
def Sm (n : Nat) (d : PyData) : Prop := d.canLay0 = true ∧ d.depth ≤ n
theorem Sm.sh {n : Nat} {d : PyData} (h : Sm n d) (hn : n ≤ 64 := by decide) : SeqAt.shaped d = true := by
  unfold SeqAt.shaped
  rw [h.1, Bool.true_and, decide_eq_true_eq]
  exact Nat.le_trans h.2 hn
theorem Sm.le {n m : Nat} {d : PyData} (h : Sm n d) (hn : n ≤ m) : Sm m d := ⟨h.1, Nat.le_trans h.2 hn⟩
theorem layAll_of : ∀ {ds : List PyData}, (∀ d ∈ ds, d.canLay0 = true) → PyData.canLayAll0 ds = true
  | [], _ => by simp [PyData.canLayAll0]
  | d :: ds, h => by
    simp only [PyData.canLayAll0]
    rw [h d List.mem_cons_self, layAll_of fun x hx => h x (List.mem_cons_of_mem _ hx)]
    rfl
theorem layAll_mem : ∀ {ds : List PyData} {d : PyData}, PyData.canLayAll0 ds = true → d ∈ ds → d.canLay0 = true
  | x :: ds, d, h, hm => by
    have h' : x.canLay0 = true ∧ PyData.canLayAll0 ds = true := by simpa [PyData.canLayAll0] using h
    rcases List.mem_cons.mp hm with rfl | hm
    · exact h'.1
    · exact layAll_mem h'.2 hm
theorem depthAll_of {n : Nat} : ∀ {ds : List PyData}, (∀ d ∈ ds, d.depth ≤ n) → PyData.depthAll ds ≤ n
  | [], _ => by simp [PyData.depthAll]
  | d :: ds, h => by
    simp only [PyData.depthAll]
    exact Nat.max_le.mpr ⟨h d List.mem_cons_self, depthAll_of fun x hx => h x (List.mem_cons_of_mem _ hx)⟩
theorem depthAll_mem : ∀ {ds : List PyData} {d : PyData}, d ∈ ds → d.depth ≤ PyData.depthAll ds
  | x :: ds, d, hm => by
    simp only [PyData.depthAll]
    rcases List.mem_cons.mp hm with rfl | hm
    · exact Nat.le_max_left _ _
    · exact Nat.le_trans (depthAll_mem hm) (Nat.le_max_right _ _)
theorem sm_tup {n : Nat} {ds : List PyData} (h : ∀ d ∈ ds, Sm n d) : Sm (n + 1) (.tuple ds) := ⟨by
  simp only [PyData.canLay0]
  exact layAll_of fun d hd => (h d hd).1, by
  simp only [PyData.depth]
  exact Nat.succ_le_succ (depthAll_of fun d hd => (h d hd).2)⟩
theorem sm_lst {n : Nat} {ds : List PyData} (h : ∀ d ∈ ds, Sm n d) : Sm (n + 1) (.list ds) := ⟨by
  simp only [PyData.canLay0]
  exact layAll_of fun d hd => (h d hd).1, by
  simp only [PyData.depth]
  exact Nat.succ_le_succ (depthAll_of fun d hd => (h d hd).2)⟩
theorem Sm.memT {n : Nat} {ds : List PyData} (h : Sm n (.tuple ds)) {d : PyData} (hd : d ∈ ds) : Sm (n - 1) d := ⟨layAll_mem (by simpa [PyData.canLay0] using h.1) hd, by
  have h1 : PyData.depthAll ds + 1 ≤ n := by simpa [PyData.depth] using h.2
  have h2 := depthAll_mem hd
  omega⟩
theorem Sm.memL {n : Nat} {ds : List PyData} (h : Sm n (.list ds)) {d : PyData} (hd : d ∈ ds) : Sm (n - 1) d := ⟨layAll_mem (by simpa [PyData.canLay0] using h.1) hd, by
  have h1 : PyData.depthAll ds + 1 ≤ n := by simpa [PyData.depth] using h.2
  have h2 := depthAll_mem hd
  omega⟩
theorem sm_int {n : Nat} {i : Int} : Sm (n + 1) (.int i) := ⟨by simp [PyData.canLay0], by simp [PyData.depth]⟩
theorem sm_bool {n : Nat} {b : Bool} : Sm (n + 1) (.bool b) := ⟨by simp [PyData.canLay0], by simp [PyData.depth]⟩
theorem sm_none {n : Nat} : Sm (n + 1) .none := ⟨by simp [PyData.canLay0], by simp [PyData.depth]⟩
theorem sm_str {n : Nat} {s : Str} (h : strOk s = true) : Sm (n + 1) (.str s) := ⟨by simpa [PyData.canLay0] using h, by simp [PyData.depth]⟩
theorem Sm.str {n : Nat} {s : Str} (h : Sm n (.str s)) : strOk s = true := by simpa [PyData.canLay0] using h.1
theorem sgn_ok {s : Str} (h : strOk s = true) {c : Nat} (hc : c ∈ s.cps.toList) : strOk (sgn c) = true := by
  unfold strOk at h ⊢
  have h1 := Array.all_eq_true_iff_forall_mem.mp h c (Array.mem_toList_iff.mp hc)
  simpa [sgn] using h1
theorem sm_filter {n : Nat} {ds : List PyData} {p : PyData → Bool} (h : ∀ d ∈ ds, Sm n d) : Sm (n + 1) (.list ((ds.filter p).map fun d => d)) := sm_lst fun d hd => by
  rw [List.map_id'] at hd
  exact h d ((List.mem_filter.mp hd).1)
theorem eqv_nil : ∀ ds : List PyData, PyData.eqv (.list ds) (.list []) = ds.isEmpty
  | [] => by simp [PyData.eqv, PyData.eqvAll]
  | d :: ds => by simp [PyData.eqv, PyData.eqvAll]
theorem eqv_int (a b : Int) : PyData.eqv (.int a) (.int b) = (a == b) := by simp [PyData.eqv]
theorem eqv_str (a b : Str) : PyData.eqv (.str a) (.str b) = (a == b) := by simp [PyData.eqv]
theorem filter_emp {α : Type} (p : α → Bool) : ∀ l : List α, (l.filter p).isEmpty = l.all fun x => !p x
  | [] => rfl
  | x :: l => by
    rw [List.filter_cons, List.all_cons]
    by_cases h : p x = true
    · rw [if_pos h, h]
      rfl
    · rw [if_neg h, filter_emp p l]
      simp [h]
theorem mapb {α : Type} (l : List α) (f : α → Bool) : (l.filter fun _ => true).map (fun c => PyData.bool (f c)) = (l.map f).map PyData.bool := by
  rw [List.filter_eq_self.mpr (fun _ _ => rfl), List.map_map]
  rfl
theorem all_id {α : Type} (l : List α) (f : α → Bool) : (l.map f).all id = l.all f := by rw [List.all_map]; rfl
/-! ### words, rules -/
def loS (c : Nat) : Bool := decide ((sgn c).cps.toList < (("a" : Str)).cps.toList)
def hiS (c : Nat) : Bool := decide ((("z" : Str)).cps.toList < (sgn c).cps.toList)
def wordD : PyData → Bool
  | .str s => (decide ((1 : Int) ≤ (s.length : Nat)) && decide (((s.length : Nat) : Int) ≤ 3)) && s.cps.toList.all fun c => !loS c && !hiS c
  | _ => false
theorem wordD_str (s : Str) : wordD (.str s) = ((decide ((1 : Int) ≤ (s.length : Nat)) && decide (((s.length : Nat) : Int) ≤ 3)) && s.cps.toList.all fun c => !loS c && !hiS c) := rfl
abbrev WSH : List Str := ["left", "right"]
abbrev OSH : List Str := ["same", "first", "last"]
abbrev TSH : List Str := ["wrap", "ahead", "behind"]
def inS (s : Str) (L : List Str) : Bool := L.any fun x => x == s
theorem inD_str (s : Str) (L : List Str) : inD (.str s) (L.map .str) = inS s L := by
  unfold inD inS
  rw [List.any_map]
  exact congrArg (fun f => L.any f) (funext fun x => eqv_str x s)
/-- the last parts of a rule whose first part and shape are right -/
def tailD (s : Str) (ps : List PyData) (n : Int) : Bool :=
  if inS s WSH then decide (ps.length = 1) && wordD (ps.getD 0 .none)
  else if inS s OSH then decide (ps.length = 1) && inB (ps.getD 0 .none) 0 (n - 1)
  else inS s TSH && (decide (ps.length = 2) && ps.all fun d => inB d 0 (n - 1))
def ruleD (d : PyData) (n : Int) : Bool := match d with
  | .tuple (a :: .str s :: p :: ps) => inB a 0 (n - 1) && tailD s (p :: ps) n
  | _ => false
def rulesD (d : PyData) (n : Int) : Bool := match d with
  | .tuple rs => (decide ((1 : Int) ≤ (rs.length : Nat)) && decide (((rs.length : Nat) : Int) ≤ 90)) && rs.all fun r => ruleD r n
  | _ => false
theorem rulesD_tup (rs : List PyData) (n : Int) : rulesD (.tuple rs) n = ((decide ((1 : Int) ≤ (rs.length : Nat)) && decide (((rs.length : Nat) : Int) ≤ 90)) && rs.all fun r => ruleD r n) := rfl
/-- a valid rule, in full -/
theorem ruleD_is {d : PyData} {n : Int} (h : ruleD d n = true) : ∃ (a : Int) (s : Str) (p : PyData) (ps : List PyData), d = .tuple (.int a :: .str s :: p :: ps) ∧ 0 ≤ a ∧ a < n ∧ tailD s (p :: ps) n = true := by
  unfold ruleD at h
  split at h
  · rename_i a s p ps
    rw [Bool.and_eq_true] at h
    obtain ⟨h1, h2⟩ := h
    cases a with
    | int i =>
      unfold inB at h1
      simp only [Bool.and_eq_true, decide_eq_true_eq] at h1
      exact ⟨i, s, p, ps, rfl, h1.1, by omega, h2⟩
    | _ => cases h1
  · cases h
theorem tailD_one {s : Str} {p : PyData} {ps : List PyData} {n : Int} (h : tailD s (p :: ps) n = true) (ho : inS s OSH = true) : ps = [] ∧ ∃ c : Int, p = .int c ∧ 0 ≤ c ∧ c < n := by
  unfold tailD at h
  have hw : inS s WSH = false := by
    unfold inS at ho ⊢
    simp only [List.any_cons, List.any_nil, Bool.or_false, Bool.or_eq_true, beq_iff_eq] at ho
    rcases ho with rfl | rfl | rfl <;> decide +kernel
  rw [hw, if_neg (by decide), if_pos ho, Bool.and_eq_true, decide_eq_true_eq] at h
  obtain ⟨h1, h2⟩ := h
  have e : ps = [] := by
    cases ps with
    | nil => rfl
    | cons _ _ => simp at h1
  subst e
  have h3 : inB p 0 (n - 1) = true := h2
  cases p with
  | int i =>
    unfold inB at h3
    simp only [Bool.and_eq_true, decide_eq_true_eq] at h3
    exact ⟨rfl, i, rfl, h3.1, by omega⟩
  | _ => cases h3
/-! ### steps -/
def isOne (d : PyData) : Bool := match d with
  | .tuple (_ :: .str s :: _) => inS s OSH
  | _ => false
def edge (d : PyData) : Int × Int := match d with
  | .tuple [.int a, _, .int c] => (a, c)
  | _ => (0, 0)
def edges (rs : List PyData) : List (Int × Int) := (rs.filter isOne).map edge
theorem one_is {d : PyData} {n : Int} (h : ruleD d n = true) (ho : isOne d = true) : ∃ (a : Int) (s : Str) (c : Int), d = .tuple [.int a, .str s, .int c] ∧ 0 ≤ a ∧ a < n ∧ 0 ≤ c ∧ c < n ∧ inS s OSH = true := by
  obtain ⟨a, s, p, ps, rfl, h1, h2, h3⟩ := ruleD_is h
  obtain ⟨rfl, c, rfl, h4, h5⟩ := tailD_one h3 ho
  exact ⟨a, s, c, rfl, h1, h2, h4, h5, ho⟩
theorem edges_in {rs : List PyData} {n : Int} (h : ∀ r ∈ rs, ruleD r n = true) (a b : Int) (hm : (a, b) ∈ edges rs) : 0 ≤ a ∧ a < n ∧ 0 ≤ b ∧ b < n := by
  obtain ⟨r, hr, he⟩ := List.mem_map.mp hm
  obtain ⟨h1, h2⟩ := List.mem_filter.mp hr
  obtain ⟨a', s, c, rfl, g1, g2, g3, g4, _⟩ := one_is (h r h1) h2
  cases he
  exact ⟨g1, g2, g3, g4⟩
theorem edges_len (rs : List PyData) : (edges rs).length ≤ rs.length := by
  unfold edges
  rw [List.length_map]
  exact List.length_filter_le _ _
def toD (p : Int × Int) : PyData := .tuple [.int p.1, .int p.2]
def optD : Option Int → PyData
  | some k => .int k
  | none => .none
/-- the least kind that comes back to itself -/
def backK (E : List (Int × Int)) (n : Nat) : Option Int := ((List.range n).find? fun (k : Nat) => (Gm.turns E (k : Int) (n + 1)).contains (k : Int)).map fun k => (k : Int)
theorem backK_bk {E : List (Int × Int)} {n : Nat} (hE : ∀ a b, (a, b) ∈ E → 0 ≤ b ∧ b < (n : Int)) : Gm.BK E n (backK E n) := by
  have key : ∀ k : Nat, (Gm.turns E (k : Int) (n + 1)).contains (k : Int) = true ↔ Gm.Rch E k k := fun k => by
    rw [List.contains_iff_mem]
    exact Gm.turns_all hE k
  unfold backK
  cases h : (List.range n).find? fun (k : Nat) => (Gm.turns E (k : Int) (n + 1)).contains (k : Int) with
  | none =>
    refine .none fun j h0 h1 r => ?_
    have h2 := List.find?_eq_none.mp h j.toNat (List.mem_range.mpr (by omega))
    have e : ((j.toNat : Nat) : Int) = j := by omega
    refine h2 ((key _).mpr ?_)
    rw [e]
    exact r
  | some k =>
    have h1 := List.find?_some h
    have hlt : k < n := List.mem_range.mp (List.mem_of_find?_eq_some h)
    refine .some (k : Int) (by omega) (by omega) ((key k).mp h1) fun j h0 h2 r => ?_
    have e : ((j.toNat : Nat) : Int) = j := by omega
    have hj : j.toNat < k := by omega
    rw [List.find?_range_eq_some] at h
    have h3 := h.2.2 j.toNat hj
    rw [Bool.not_eq_true', ← Bool.not_eq_true] at h3
    refine h3 ((key _).mpr ?_)
    rw [e]
    exact r
/-- what Pairs(kinds, rules) tells -/
def dueD (k r : PyData) : PyData := match k with
  | .int n => if 1 ≤ n ∧ n ≤ 40 then (if rulesD r n = true then (match r with
      | .tuple rs => (match backK (edges rs) n.toNat with | none => .tuple [.str "kept", .int n, r] | some b => .tuple [.str "endless", .int b])
      | _ => .none) else .tuple [.str "rules", r]) else .tuple [.str "number", k]
  | _ => .tuple [.str "number", k]
end K12

namespace K12
open PySem PySem.Spec PyProof.Rows L2 Evl Ex Dx
open PySem.PyData (strOk)

def topS (i : Nat) : Stmt := PySem.Challenge.pw_treestacks_k12_bars_looked_at.main.body.getD i (.Pass ⟨0, 0, 0, 0⟩)

structure TupC (K : PySem.W.Frag) (mg : Str → Option Value) (x : Str) (L : List Str) : Prop where
  ex : ∃ W, mg x = some (.ref W) ∧ ∀ H, Dd K H (.ref W) (.tuple (L.map .str))
structure TC (K : PySem.W.Frag) (mg : Str → Option Value) : Prop extends TB mg where
  c_MOST_LETTERS : ∃ t, mg "MOST_LETTERS" = some (.int 3 t)
  c_MOST_RULES : ∃ t, mg "MOST_RULES" = some (.int 90 t)
  c_MOST_KINDS : ∃ t, mg "MOST_KINDS" = some (.int 40 t)
  w_WORD : TupC K mg "WORD_SHAPES" WSH
  w_ONE : TupC K mg "ONE_SHAPES" OSH
  w_TWO : TupC K mg "TWO_SHAPES" TSH

section
variable {P : Program} {w : World} {K : PySem.W.Frag} {mg : Str → Option Value} {base : Heap} {f : Addr} {fd : FuncData}

abbrev s_InvalidNumber_init : Stmt := inClass (topS 9) 0
abbrev N_InvalidNumber_init : List Str := ["self", "value"]
theorem sc_InvalidNumber_init : FnScope N_InvalidNumber_init ["self", "value"] (defScope s_InvalidNumber_init) := ⟨rfl, rfl, rfl, by decide +kernel, rfl, by decide +kernel, by decide +kernel⟩
theorem ok_InvalidNumber {fI G C : Addr} {mc : Value} (F : Fun K "__init__" "InvalidNumber.__init__" s_InvalidNumber_init fI fd) (hg : mg "GraftError" = some (.ref G)) (rd : ClX.CRead K G mc) (gi : PySem.W.findCls K (.ref G) mc "__init__" = some (.val (.builtin "ValueError.__init__"))) (oc : OexC K C) (no : PySem.W.findIn K (.ref C) "value" = some none) :
    FnOk P w K mg base CX0 1 fI fd ["self", "value"] (spInit C "value") := by
  refine F.ok sc_InvalidNumber_init (fun vs H Q E h => ?_) (fun cdv A outer s H vs Q E hr h => ?_)
  · obtain ⟨a, v, rfl, _⟩ := h
    rfl
  · obtain ⟨a, v, rfl, ha, k⟩ := h
    refine ⟨_, (pss_cons (ps_expr (pe_ginit rd gi rfl hg (pa_cons (pv 0) (pa_cons pe_str pa_nil))))
      (pss_one (ps_ost (pv 0) (pv 1)))), ?_⟩
    refine ⟨.ref a, rfl, a, C, _, rfl, (by show 1 ≤ 1000; decide), oc, ha, ?_⟩
    exact ⟨v, rfl, .ref a, rfl, a, C, rfl, oc, no, .inl ⟨ha, fun dx hdx hne => k dx hdx hne⟩⟩
abbrev s_InvalidRules_init : Stmt := inClass (topS 10) 0
abbrev N_InvalidRules_init : List Str := ["self", "value"]
theorem sc_InvalidRules_init : FnScope N_InvalidRules_init ["self", "value"] (defScope s_InvalidRules_init) := ⟨rfl, rfl, rfl, by decide +kernel, rfl, by decide +kernel, by decide +kernel⟩
theorem ok_InvalidRules {fI G C : Addr} {mc : Value} (F : Fun K "__init__" "InvalidRules.__init__" s_InvalidRules_init fI fd) (hg : mg "GraftError" = some (.ref G)) (rd : ClX.CRead K G mc) (gi : PySem.W.findCls K (.ref G) mc "__init__" = some (.val (.builtin "ValueError.__init__"))) (oc : OexC K C) (no : PySem.W.findIn K (.ref C) "value" = some none) :
    FnOk P w K mg base CX0 1 fI fd ["self", "value"] (spInit C "value") := by
  refine F.ok sc_InvalidRules_init (fun vs H Q E h => ?_) (fun cdv A outer s H vs Q E hr h => ?_)
  · obtain ⟨a, v, rfl, _⟩ := h
    rfl
  · obtain ⟨a, v, rfl, ha, k⟩ := h
    refine ⟨_, (pss_cons (ps_expr (pe_ginit rd gi rfl hg (pa_cons (pv 0) (pa_cons pe_str pa_nil))))
      (pss_one (ps_ost (pv 0) (pv 1)))), ?_⟩
    refine ⟨.ref a, rfl, a, C, _, rfl, (by show 1 ≤ 1000; decide), oc, ha, ?_⟩
    exact ⟨v, rfl, .ref a, rfl, a, C, rfl, oc, no, .inl ⟨ha, fun dx hdx hne => k dx hdx hne⟩⟩
abbrev s_Endless_init : Stmt := inClass (topS 11) 0
abbrev N_Endless_init : List Str := ["self", "kind"]
theorem sc_Endless_init : FnScope N_Endless_init ["self", "kind"] (defScope s_Endless_init) := ⟨rfl, rfl, rfl, by decide +kernel, rfl, by decide +kernel, by decide +kernel⟩
theorem ok_Endless {fI G C : Addr} {mc : Value} (F : Fun K "__init__" "Endless.__init__" s_Endless_init fI fd) (hg : mg "GraftError" = some (.ref G)) (rd : ClX.CRead K G mc) (gi : PySem.W.findCls K (.ref G) mc "__init__" = some (.val (.builtin "ValueError.__init__"))) (oc : OexC K C) (no : PySem.W.findIn K (.ref C) "kind" = some none) :
    FnOk P w K mg base CX0 1 fI fd ["self", "kind"] (spInit C "kind") := by
  refine F.ok sc_Endless_init (fun vs H Q E h => ?_) (fun cdv A outer s H vs Q E hr h => ?_)
  · obtain ⟨a, v, rfl, _⟩ := h
    rfl
  · obtain ⟨a, v, rfl, ha, k⟩ := h
    refine ⟨_, (pss_cons (ps_expr (pe_ginit rd gi rfl hg (pa_cons (pv 0) (pa_cons pe_str pa_nil))))
      (pss_one (ps_ost (pv 0) (pv 1)))), ?_⟩
    refine ⟨.ref a, rfl, a, C, _, rfl, (by show 1 ≤ 1000; decide), oc, ha, ?_⟩
    exact ⟨v, rfl, .ref a, rfl, a, C, rfl, oc, no, .inl ⟨ha, fun dx hdx hne => k dx hdx hne⟩⟩
theorem one_arg {B : Hp} {vs : List V} {d : PyData} (h : DdAll K B vs [d]) : ∃ v, vs = [v] ∧ Dd K B v d := arg1 h
/-- _law_box(script, k): a new box, at a place where none was -/
def spBoxN (K : PySem.W.Frag) : Sp := fun vs H Q _ => ∃ (a : Addr) (k : Int) (ns : List Int) (B : Hp), vs = [.ref a, .int k] ∧ Ex B H ∧ SqL K B a (ns.map V.int) ∧ ns.length ≤ 63 ∧ 0 ≤ k ∧ k ≤ 1000 ∧
  ∀ p B' H', H p = none → Step (fun _ => False) B H B' H' → Ok (Fm.box p) B' H' → Q (.ref p) H'
abbrev s_law_box : Stmt := topS 40
abbrev N_law_box : List Str := ["script", "k", "cell", "great"]
theorem sc_law_box : FnScope N_law_box ["script", "k"] (defScope s_law_box) := ⟨rfl, rfl, rfl, by decide +kernel, rfl, by decide +kernel, by decide +kernel⟩
theorem ok_box (F : Fun K "_law_box" "_law_box" s_law_box f fd) (T : TB mg) : FnOk P w K mg base CX0 1 f fd ["script", "k"] (spBoxN K) := by
  refine F.ok sc_law_box (fun vs H Q E h => ?_) (fun cdv A outer s H vs Q E hr h => ?_)
  · obtain ⟨a, k, ns, B, rfl, _⟩ := h
    rfl
  · obtain ⟨a, k, ns, B, rfl, e, hS, hl, k0, k1, q⟩ := h
    refine ⟨_, (pss_cons (ps_set (i := 2) sc_law_box.nd rfl (Or.inl rfl) (pe_op (op_addK K) (pe_op op_mul pe_int (pv 1)) pe_int))
      (Evl.pss_cut (ps_if (pt_cmpR op_lt (pv 1) (pe_callB (call_lenK K) (by rfl) T.m_len bt_len (pa_cons (pv 0) pa_nil)) (nomark _)) (pss_one (ps_set (i := 2) sc_law_box.nd rfl (Or.inl rfl) (pe_callB call_abs (by rfl) T.m_abs bt_abs (pa_cons (pe_ix (ix_seqK K) (pv 0) (pv 1) (fun _ _ => rfl)) pa_nil)))) (pss_one (ps_if (pt_cmpR op_gt (pe_callB (call_lenK K) (by rfl) T.m_len bt_len (pa_cons (pv 0) pa_nil)) pe_int (nomark _)) (pss_one (ps_set (i := 2) sc_law_box.nd rfl (Or.inl rfl) (pe_op (op_addK K) (pe_op op_mul (pe_op op_mod (pe_callTy call_int1 (by rfl) T.m_int bt_int (pa_cons (pe_callB call_abs (by rfl) T.m_abs bt_abs (pa_cons (pe_ix (ix_seqK K) (pv 0) (pe_op op_mod (pe_callTy call_int1 (by rfl) T.m_int bt_int (pa_cons (pv 1) pa_nil)) (pe_callB (call_lenK K) (by rfl) T.m_len bt_len (pa_cons (pv 0) pa_nil))) (fun _ _ => rfl)) pa_nil)) pa_nil)) pe_int) pe_int) (pe_op op_mul pe_int (pv 1))))) pss_nil)))
      (pss_cons (ps_set (i := 3) sc_law_box.nd rfl (Or.inl rfl) (pe_ix (ix_seqK K) (pe_lst (pa_cons pe_int (pa_cons (pv 2) pa_nil))) (pe_callTy call_int1 (by rfl) T.m_int bt_int (pa_cons (pe_cmpR op_ge (pv 2) (pe_op op_pow pe_int pe_int) (nomark _)) pa_nil)) (fun _ _ => rfl)))
      (pss_one (ps_ret (pe_lst (pa_cons (pv 3) (pa_cons (pe_op (op_addK K) (pe_op op_mod (pe_callTy call_int1 (by rfl) T.m_int bt_int (pa_cons (pe_op (op_addK K) (pe_op op_mul (pe_op op_mod (pe_callTy call_int1 (by rfl) T.m_int bt_int (pa_cons (pv 2) pa_nil)) pe_int) pe_int) (pe_op op_mul pe_int (pv 1))) pa_nil)) pe_int) pe_int) pa_nil)))))))), ?_⟩
    have a0 : At Fm.pure B H B H := At.start (Ok.any e)
    have lenS : ∀ (σ : L2.St) B1, σ[0]? = some (some (V.ref a)) → Ex B B1 → ED Fm.pure K (tCB (fun xs H Q => ∃ x n, xs = [x] ∧ LenV K x H n ∧ Q (.int (n : Nat)) H) (tCons (tVar 0) tNil)) σ B1 (.int (ns.length : Nat)) := by
      intro σ B1 hσ e1 B2 e2 H2 j2 Q q
      exact ⟨.ref a, hσ, .ref a, ns.length, rfl, .inl ⟨_, ex_l j2.e (ex_l (e1.trans e2) hS), by rw [List.length_map]⟩, q _ B2 H2 (Step.refl j2.e) j2 (.int _)⟩
    have ixS : ∀ (σ : L2.St) B1 (i : Int) (ti : TE), σ[0]? = some (some (V.ref a)) → Ex B B1 → ED Fm.pure K ti σ B1 (.int i) → 0 ≤ i → i < (ns.length : Nat) → EV Fm.pure (tOp (rIx K) (tVar 0) ti) σ B1 (fun v _ => ∃ n : Int, v = .int n) := by
      intro σ B1 i ti hσ e1 hi h0 h1 B2 e2 H2 j2 Q q
      refine ⟨.ref a, hσ, hi B2 e2 H2 j2 _ fun v B3 H3 s3 j3 g => ?_⟩
      obtain rfl := dd_int g
      have hlt : i.toNat < ns.length := by omega
      have hx : (ns.map V.int)[i.toNat]? = some (V.int ns[i.toNat]) := by rw [List.getElem?_map, List.getElem?_eq_getElem hlt]; rfl
      refine .inl ⟨a, _, i, _, rfl, rfl, ex_l j3.e (ex_l ((e1.trans e2).trans s3.bb) hS), at_of (by omega) hx, q _ B3 H3 s3 j3 ⟨_, rfl⟩⟩
    have absE : ∀ (σ : L2.St) B1 (te : TE), EV Fm.pure te σ B1 (fun v _ => ∃ n : Int, v = .int n) → EV Fm.pure (tCB (fun xs H Q => ∃ i, xs = [.int i] ∧ Q (.int (if i < 0 then -i else i)) H) (tCons te tNil)) σ B1 (fun v _ => ∃ n : Int, v = .int n) := by
      intro σ B1 te h B2 e2 H2 j2 Q q
      exact h B2 e2 H2 j2 _ fun v B3 H3 s3 j3 ⟨n, hn⟩ => ⟨n, by rw [hn], q _ B3 H3 s3 j3 ⟨_, rfl⟩⟩
    have intE : ∀ (σ : L2.St) B1 (te : TE), EV Fm.pure te σ B1 (fun v _ => ∃ n : Int, v = .int n) → EV Fm.pure (tCB (fun xs H Q => (∃ i, xs = [.int i] ∧ Q (.int i) H) ∨ ∃ k, xs = [.bl k] ∧ Q (.int (if k then 1 else 0)) H) (tCons te tNil)) σ B1 (fun v _ => ∃ n : Int, v = .int n) := by
      intro σ B1 te h B2 e2 H2 j2 Q q
      exact h B2 e2 H2 j2 _ fun v B3 H3 s3 j3 ⟨n, hn⟩ => .inl ⟨n, by rw [hn], q _ B3 H3 s3 j3 ⟨_, rfl⟩⟩
    have upI : Upc (fun v _ => ∃ n : Int, v = V.int n) := fun _ _ _ _ h => h
    refine qv_asg a0 (ed_op (ed_op ed_int (ed_var rfl (.int k)) (rd_mul (.inl ⟨by decide, by decide⟩))) ed_int rd_add) fun v B1 H1 e1 a1 hv => ?_
    obtain rfl := dd_int hv
    refine ⟨fun σ' H' => ∃ c : Int, ∃ B', σ' = [some (.ref a), some (.int k), some (.int c), none] ∧ Ex B B' ∧ At Fm.pure B H B' H', ?_, ?_⟩
    · refine sv_if a1 (et_cmp (ed_op (ed_var rfl (.int k)) (lenS _ B1 rfl e1) rd_lt)) (fun hk B2 H2 e2 a2 => ?_) (fun hk B2 H2 e2 a2 => ?_)
      · have hk' : k < (ns.length : Nat) := of_decide_eq_true hk
        refine sv_asg a2 (absE _ B2 _ (ixS _ B2 k _ rfl (e1.trans e2) (ed_var rfl (.int k)) k0 hk')) fun v B3 H3 e3 a3 hv => ?_
        obtain ⟨c, rfl⟩ := hv
        exact ⟨c, B3, rfl, (e1.trans e2).trans e3, a3⟩
      · refine sv_if a2 (et_cmp (ed_op (lenS _ B2 rfl (e1.trans e2)) ed_int rd_gt)) (fun hz B3 H3 e3 a3 => ?_) (fun hz B3 H3 e3 a3 => ?_)
        · have hz' : (0 : Int) < (ns.length : Nat) := of_decide_eq_true hz
          have eb := (e1.trans e2).trans e3
          have ei : ED Fm.pure K (tOp (rI (fun _ j => 0 < j) fun i j => .int (i % j)) (tCB (fun xs H Q => (∃ i, xs = [.int i] ∧ Q (.int i) H) ∨ ∃ k, xs = [.bl k] ∧ Q (.int (if k then 1 else 0)) H) (tCons (tVar 1) tNil)) (tCB (fun xs H Q => ∃ x n, xs = [x] ∧ LenV K x H n ∧ Q (.int (n : Nat)) H) (tCons (tVar 0) tNil))) [some (.ref a), some (.int k), some (.int (7919 * k + 101)), none] B3 (.int (k % (ns.length : Nat))) :=
            ed_op (ev_cb (eds_cons (ed_var rfl (.int k)) eds_nil) rc_int1) (lenS _ B3 rfl eb) (rd_mod hz')
          have e5 := intE _ B3 _ (absE _ B3 _ (ixS _ B3 _ _ rfl eb ei (Int.emod_nonneg k (by omega)) (Int.emod_lt_of_pos k hz')))
          refine sv_asg (P := fun v _ => ∃ n : Int, v = .int n) a3 (ev_op (ev_op (P' := DD K (.int 31)) (Z := fun v _ => ∃ n : Int, v = .int n) (ev_op (P' := DD K (.int 1000000007)) (Z := fun v _ => ∃ n : Int, v = .int n) e5 ed_int upI ?_) ed_int upI ?_) (P' := DD K (.int (7919 * k))) (ed_op ed_int (ed_var rfl (.int k)) (rd_mul (.inl ⟨by decide, by decide⟩))) upI ?_) fun v B4 H4 e4 a4 hv => ?_
          · intro B6 _ H6 u v j6 ⟨n, hu⟩ hv Q q
            exact ⟨n, 1000000007, hu, dd_int hv, (show (0 : Int) < 1000000007 by decide), q _ B6 H6 (Step.refl j6.e) j6 ⟨_, rfl⟩⟩
          · intro B6 _ H6 u v j6 ⟨n, hu⟩ hv Q q
            exact ⟨n, 31, hu, dd_int hv, .inr ⟨by decide, by decide⟩, q _ B6 H6 (Step.refl j6.e) j6 ⟨_, rfl⟩⟩
          · intro B6 _ H6 u v j6 ⟨n, hu⟩ hv Q q
            exact .inl ⟨n, _, hu, dd_int hv, q _ B6 H6 (Step.refl j6.e) j6 ⟨_, rfl⟩⟩
          obtain ⟨c, rfl⟩ := hv
          exact ⟨c, B4, rfl, eb.trans e4, a4⟩
        · exact ⟨_, B3, rfl, (e1.trans e2).trans e3, a3⟩
    · rintro σ' H' ⟨c, B4, rfl, e4, a4⟩
      refine qv_asg (P := fun v _ => ∃ n : Int, v = .int n) a4 (ev_op (P := DD K (.list [.int 0, .int c])) (P' := DD K (.int (if decide ((10 : Int) ^ (18 : Int).toNat ≤ c) = true then 1 else 0))) (ed_lst (eds_cons ed_int (eds_cons (ed_var rfl (.int c)) eds_nil))) (ev_cb (eds_cons (ed_op (ed_var rfl (.int c)) (ed_op ed_int ed_int (rd_pow ⟨by decide, by decide, by decide⟩)) rd_ge) eds_nil) rc_intB) upc_dd ?_) fun v B5 H5 e5 a5 hv => ?_
      · intro B6 _ H6 u v j6 hu hv Q q
        obtain rfl := dd_int hv
        refine rd_ixL (F := Fm.pure) (K := K) (B := B6) (d := .int (if decide ((10 : Int) ^ (18 : Int).toNat ≤ c) = true then c else 0)) ?_ B6 (Ex.refl B6) H6 u _ j6 hu (.int _) Q fun w B7 H7 s7 k7 g => q w B7 H7 s7 k7 ⟨_, dd_int g⟩
        by_cases hc : decide ((10 : Int) ^ (18 : Int).toNat ≤ c) = true
        · rw [if_pos hc, if_pos hc]
          rfl
        · rw [if_neg hc, if_neg hc]
          rfl
      obtain ⟨g, rfl⟩ := hv
      refine sv_retL (K := K) (ds := [.int g, .int (((c % 1000000007 * 48271 + 613 * k) % 2147483647) + 1)]) a5 (eds_cons (ed_var rfl (.int g)) (eds_cons (ed_op (ed_op (ev_cb (eds_cons (ed_op (ed_op (ed_op (ev_cb (eds_cons (ed_var rfl (.int c)) eds_nil) rc_int1) ed_int (rd_mod (by decide))) ed_int (rd_mul (.inr ⟨by decide, by decide⟩))) (ed_op ed_int (ed_var rfl (.int k)) (rd_mul (.inl ⟨by decide, by decide⟩))) rd_add) eds_nil) rc_int1) ed_int (rd_mod (by decide))) ed_int rd_add) eds_nil)) fun vs B6 H6 s6 j6 g6 => ⟨?_, fun p hp => ?_⟩
      · rw [DdAll.len g6]
        show 2 ≤ sizeLine
        decide
      · cases g6 with
        | cons g1 t =>
          cases t with
          | cons g2 t =>
            cases t
            obtain rfl := dd_int g1
            obtain rfl := dd_int g2
            have a6 := a5.next s6 j6
            have hpB : B6 p = none := fresh_back j6.e hp
            have s7 : Step (fun _ => False) B6 H6 B6 (upd H6 p (.lst [.int g, .int (((c % 1000000007 * 48271 + 613 * k) % 2147483647) + 1)])) :=
              ⟨Ex.refl B6, fun x o h => by rw [upd_ne (ne_of_none h hpB)]; exact j6.e x o h, fun x o _ h => by rw [upd_ne (ne_of_none h hp)]; exact h, fun x h _ => h, fun x n => by
                have hx : x ≠ p := fun z => n (z ▸ hp)
                rw [upd_ne hx]
                exact n, fun x n => n.upd fun z => n.ne (z ▸ hp)⟩
            exact q p B6 _ (fresh_back a6.st.ex hp) (a6.st.trans s7) ⟨s7.bh, ⟨g, _, upd_same⟩, fun x m => by
              have m' : x = p := m
              rw [m']
              exact hpB⟩
abbrev s_law_take : Stmt := topS 41
abbrev N_law_take : List Str := ["box", "many", "got"]
theorem sc_law_take : FnScope N_law_take ["box", "many"] (defScope s_law_take) := ⟨rfl, rfl, rfl, by decide +kernel, rfl, by decide +kernel, by decide +kernel⟩
theorem ok_take (F : Fun K "_law_take" "_law_take" s_law_take f fd) (T : TB mg) : FnOk P w K mg base CX0 1 f fd ["box", "many"] (spTake K) := by
  refine F.ok sc_law_take (fun vs H Q E h => ?_) (fun cdv A outer s H vs Q E hr h => ?_)
  · obtain ⟨p, us, B, ds, rfl, ok, hu, ⟨m, rfl, hm⟩, k⟩ := h
    cases hu with
    | cons h1 t =>
      cases t
      rfl
  · obtain ⟨p, us, B, ds, rfl, ok, hu, ⟨m, rfl, h0, h1⟩, k⟩ := h
    cases hu with
    | cons hm t =>
      cases t
      obtain rfl := dd_int hm
      obtain ⟨g, s, hp⟩ := ok.j
      refine ⟨_, (pss_cons (ps_if (pt_cmpR op_gt (pe_ix (ix_seqK K) (pv 0) pe_int (fun _ _ => rfl)) pe_int (nomark _)) (pss_cons (ps_set (i := 2) sc_law_take.nd rfl (Or.inl rfl) (pe_op op_mod (pe_callTy call_int1 (by rfl) T.m_int bt_int (pa_cons (pe_ix (ix_seqK K) (pv 0) pe_int (fun _ _ => rfl)) pa_nil)) (pv 1)))
      (pss_cons (ps_asg (pe_op op_fdiv (pe_ix (ix_seqK K) (pv 0) pe_int (fun _ _ => rfl)) (pv 1)) (pg_sub (pv 0) pe_int set_list))
      (pss_one (ps_ret (pv 2))))) pss_nil)
      (pss_cons (ps_asg (pe_op op_mod (pe_callTy call_int1 (by rfl) T.m_int bt_int (pa_cons (pe_op (op_addK K) (pe_op op_mul (pe_ix (ix_seqK K) (pv 0) pe_int (fun _ _ => rfl)) pe_int) pe_int) pa_nil)) pe_int) (pg_sub (pv 0) pe_int set_list))
      (pss_one (ps_ret (pe_op op_mod (pe_callTy call_int1 (by rfl) T.m_int bt_int (pa_cons (pe_op op_fdiv (pe_ix (ix_seqK K) (pv 0) pe_int (fun _ _ => rfl)) pe_int) pa_nil)) (pv 1)))))), ?_⟩
      have a : At Fm.pure H H H H := At.start (Ok.any (Ex.refl H))
      have hb : Dd K H (.ref p) (.list [.int g, .int s]) := .lst hp (by show 2 ≤ sizeLine; decide) (.cons (.int g) (.cons (.int s) .nil))
      have fin : ∀ (g' s' got : Int) B1 H1, At Fm.pure H H B1 H1 → 0 ≤ got → got < m → Q (.int got) (upd H1 p (.lst [.int g', .int s'])) := by
        intro g' s' got B1 H1 a1 q0 q1
        have eH : Ex H H1 := a1.st.ex
        have st : Step (fun x => x = p) B H B (upd H1 p (.lst [.int g', .int s'])) := ⟨Ex.refl B, fun x o h => by
            have hx : x ≠ p := fun z => by
              rw [z, ok.av p rfl] at h
              cases h
            rw [upd_ne hx]
            exact eH x o (ok.e x o h), fun x o n h => by
            rw [upd_ne n]
            exact eH x o h, fun x h _ => h, fun x n => by
            by_cases hx : x = p
            · rw [hx, upd_same]
              exact fun z => nomatch z
            · rw [upd_ne hx]
              exact a1.st.live x n, fun x n => by
            by_cases hx : x = p
            · rw [hx]
              exact liv_set trivial
            · exact (a1.st.liv x n).upd hx⟩
        exact k _ B _ st ⟨st.bh, ⟨g', s', upd_same⟩, ok.av⟩ ⟨got, m, rfl, rfl, q0, q1⟩
      have hm0 : (m : Int) ≠ 0 := by omega
      refine qv_when a (et_cmp (ed_op (ed_op (ed_var rfl hb) ed_int (rd_ixL (d := .int g) rfl)) ed_int rd_gt)) (fun _ B1 H1 e1 a1 => ?_) (fun _ B1 H1 e1 a1 => ?_)
      · refine qv_asg a1 (ed_op (ev_cb (eds_cons (ed_op (ed_var rfl (hb.up e1)) ed_int (rd_ixL (d := .int g) rfl)) eds_nil) rc_int1) (ed_var rfl (.int m)) (rd_mod h0)) fun v B2 H2 e2 a2 hv => ?_
        obtain rfl := dd_int hv
        have ev : ED Fm.pure K (tOp (rI CDiv fun i j => .int (i / j)) (tOp (rIx K) (tVar 0) (tC (.int 0))) (tVar 1)) [some (.ref p), some (.int m), some (.int (g % m))] B2 (.int (g / m)) :=
          ed_op (ed_op (ed_var rfl (hb.up (e1.trans e2))) ed_int (rd_ixL (d := .int g) rfl)) (ed_var rfl (.int m)) (rd_fdiv ⟨h0, h1⟩)
        refine ev B2 (Ex.refl B2) H2 a2.j _ fun v B3 H3 s3 j3 hv => ?_
        obtain rfl := dd_int hv
        have a3 := a2.next s3 j3
        have hp3 : H3 p = some (.lst [.int g, .int s]) := a3.st.ex p _ hp
        exact ⟨.ref p, rfl, p, _, 0, 0, rfl, rfl, hp3, rfl, _, rfl, fin _ _ _ B3 H3 a3 (Int.emod_nonneg g hm0) (Int.emod_lt_of_pos g h0)⟩
      · have ev : ED Fm.pure K (tOp (rI (fun _ j => 0 < j) fun i j => .int (i % j)) (tCB (fun xs H Q => (∃ i, xs = [.int i] ∧ Q (.int i) H) ∨ ∃ k, xs = [.bl k] ∧ Q (.int (if k then 1 else 0)) H) (tCons (tOp (rAddA K) (tOp (rI CMul fun i j => .int (i * j)) (tOp (rIx K) (tVar 0) (tC (.int 1))) (tC (.int 39373))) (tC (.int 69621))) tNil)) (tC (.int 2147483647))) [some (.ref p), some (.int m), none] B1 (.int ((s * 39373 + 69621) % 2147483647)) :=
          ed_op (ev_cb (eds_cons (ed_op (ed_op (ed_op (ed_var rfl (hb.up e1)) ed_int (rd_ixL (d := .int s) rfl)) ed_int (rd_mul (.inr ⟨by decide, by decide⟩))) ed_int rd_add) eds_nil) rc_int1) ed_int (rd_mod (by decide))
        refine ev B1 (Ex.refl B1) H1 a1.j _ fun v B2 H2 s2 j2 hv => ?_
        obtain rfl := dd_int hv
        have a2 := a1.next s2 j2
        have hp2 : H2 p = some (.lst [.int g, .int s]) := a2.st.ex p _ hp
        refine ⟨.ref p, rfl, p, _, 1, 1, rfl, rfl, hp2, rfl, ?_⟩
        have hup : upd H2 p (.lst [.int g, .int ((s * 39373 + 69621) % 2147483647)]) p = some (.lst [.int g, .int ((s * 39373 + 69621) % 2147483647)]) := upd_same
        refine ⟨.ref p, rfl, .inl ⟨p, _, 1, .int ((s * 39373 + 69621) % 2147483647), rfl, rfl, sq_of hup, rfl, ?_⟩⟩
        refine ⟨_, 8191, rfl, rfl, ⟨by decide, by decide⟩, .inl ⟨_, rfl, _, rfl, _, m, rfl, rfl, h0, ?_⟩⟩
        exact fin _ _ _ B2 H2 a2 (Int.emod_nonneg _ hm0) (Int.emod_lt_of_pos _ h0)
abbrev s_law_pick : Stmt := topS 42
abbrev N_law_pick : List Str := ["box", "some"]
theorem sc_law_pick : FnScope N_law_pick ["box", "some"] (defScope s_law_pick) := ⟨rfl, rfl, rfl, by decide +kernel, rfl, by decide +kernel, by decide +kernel⟩
theorem ok_pick (F : Fun K "_law_pick" "_law_pick" s_law_pick f fd) (T : TB mg) (C_law_take : Callee P w K mg base "_law_take" 1 ["box", "many"] (spTake K)) : FnOk P w K mg base CX0 2 f fd ["box", "some"] (spPick K) := by
  refine F.ok sc_law_pick (fun vs H Q E h => ?_) (fun cdv A outer s H vs Q E hr h => ?_)
  · obtain ⟨p, us, B, ds, rfl, ok, hu, ⟨d, xs, rfl, _⟩, k⟩ := h
    cases hu with
    | cons h1 t =>
      cases t
      rfl
  · obtain ⟨p, us, B, ds, rfl, ok, hu, ⟨d, xs, rfl, hd, hne, hlt⟩, k⟩ := h
    cases hu with
    | cons hm t =>
      cases t
      refine ⟨_, (pss_one (ps_ret (pe_ix (ix_seqK K) (pv 1) (pe_callC C_law_take (hr.mono (by decide)) rfl pass0 (pa_cons (pv 0) (pa_cons (pe_callB (call_lenK K) (by rfl) T.m_len bt_len (pa_cons (pv 1) pa_nil)) pa_nil))) (fun _ _ => rfl)))), ?_⟩
      have a : At (Fm.box p) B H B H := At.start ok
      have hl : hasLen d = true := by rcases hd with rfl | rfl <;> rfl
      have hn : lenD d = (xs.length : Nat) := by rcases hd with rfl | rfl <;> rfl
      have hpos : 0 < xs.length := List.length_pos_iff.mpr hne
      refine sv_ret (P := fun v B => ∃ e, e ∈ xs ∧ Dd K B v e) a (ev_op (ed_var rfl hm) (ev_take (m := lenD d) rfl (ev_cb (eds_cons (ed_var rfl hm) eds_nil) (rc_len hl)) (by rw [hn]; omega) (by rw [hn]; omega)) upc_dd (by rw [hn]; exact rv_pick hd)) fun v B1 H1 e1 a1 ⟨e, he, hv⟩ => ?_
      refine k v B1 H1 a1.st a1.j ⟨d, e, rfl, ?_, hv⟩
      rcases hd with rfl | rfl <;> exact he
abbrev s_is_integer : Stmt := topS 3
abbrev N_is_integer : List Str := ["value"]
theorem sc_is_integer : FnScope N_is_integer ["value"] (defScope s_is_integer) := ⟨rfl, rfl, rfl, by decide +kernel, rfl, by decide +kernel, by decide +kernel⟩
theorem ok_is_integer (F : Fun K "is_integer" "is_integer" s_is_integer f fd) (T : TB mg) : FnOk P w K mg base CX0 1 f fd ["value"] (spInt K) := by
  refine F.ok sc_is_integer (fun vs H Q E h => ?_) (fun cdv A outer s H vs Q E hr h => ?_)
  · obtain ⟨B, ds, e, hd, ⟨d, rfl⟩, q⟩ := h
    obtain ⟨v, rfl, _⟩ := one_arg hd
    rfl
  · obtain ⟨B, ds, e, hd, ⟨d, rfl⟩, q⟩ := h
    obtain ⟨v, rfl, hv⟩ := one_arg hd
    refine ⟨_, (pss_one (ps_ret (pe_and (pe_callB (call_isiK1 K) (by rfl) T.m_isinstance bt_isinstance (pa_cons (pv 0) (pa_cons (pe_bltn (v := .ty "int") (by rfl) T.m_int bt_int rfl) pa_nil))) (pe_one (pe_not (pe_callB (call_isiK1 K) (by rfl) T.m_isinstance bt_isinstance (pa_cons (pv 0) (pa_cons (pe_bltn (v := .ty "bool") (by rfl) T.m_bool bt_bool rfl) pa_nil)))))))), ?_⟩
    have a : At Fm.pure B H B H := At.start (Ok.any e)
    have e2 : (isIntD d && !isBoolD d) = isI d := by cases d <;> rfl
    refine sv_ret (P := DD K (.bool (isI d))) a (ed_is (ed_andV (ed_isi (ed_var rfl hv) (kit_int d)) (fun _ => ed_notV (ed_isi (ed_var rfl hv) (kit_bool d)))) (by rw [e2])) fun v B1 H1 e1 a1 h1 => ?_
    exact q v B1 H1 a1.st h1
abbrev s_is_between : Stmt := topS 4
abbrev N_is_between : List Str := ["value", "low", "high"]
theorem sc_is_between : FnScope N_is_between ["value", "low", "high"] (defScope s_is_between) := ⟨rfl, rfl, rfl, by decide +kernel, rfl, by decide +kernel, by decide +kernel⟩
theorem ok_is_between (F : Fun K "is_between" "is_between" s_is_between f fd) (T : TB mg) (C_is_integer : Callee P w K mg base "is_integer" 1 ["value"] (spInt K)) : FnOk P w K mg base CX0 2 f fd ["value", "low", "high"] (spBetween K) := by
  refine F.ok sc_is_between (fun vs H Q E h => ?_) (fun cdv A outer s H vs Q E hr h => ?_)
  · obtain ⟨B, ds, e, hd, ⟨d, lo, hi, rfl⟩, q⟩ := h
    exact hd.len
  · obtain ⟨B, ds, e, hd, ⟨d, lo, hi, rfl⟩, q⟩ := h
    cases hd with
    | cons hv t =>
      cases t with
      | cons hlo t =>
        cases t with
        | cons hhi t =>
          cases t
          obtain rfl := dd_int hlo
          obtain rfl := dd_int hhi
          refine ⟨_, (pss_one (ps_ret (pe_and (pe_callC C_is_integer (hr.mono (by decide)) rfl pass0 (pa_cons (pv 0) pa_nil)) (pe_one (pe_chain op_le op_le (pv 1) (pv 0) (pv 2)))))), ?_⟩
          have a : At Fm.pure B H B H := At.start (Ok.any e)
          refine sv_ret (P := DD K (fBetween [d, .int lo, .int hi])) a (ed_is (ed_andV (b := isI d) (c := match d with | .int i => decide (lo ≤ i) && decide (i ≤ hi) | _ => false) (ed_F (eds_cons (ed_var rfl hv) eds_nil) ⟨d, rfl⟩ rfl) (fun hi1 => ?_)) ?_) fun v B1 H1 e1 a1 h1 => ?_
          · cases d with
            | int i =>
              obtain rfl := dd_int hv
              exact ed_chain (ed_var rfl (.int lo)) (ed_var rfl (.int i)) rd_le (fun _ => ⟨_, ed_var rfl (.int hi), rd_le⟩)
            | _ => cases hi1
          · cases d <;> rfl
          · exact q v B1 H1 a1.st h1
end
end K12

namespace K12
open PySem PySem.Spec PyProof.Rows L2 Evl Ex Dx
open PySem.PyData (strOk)

section
variable {P : Program} {w : World} {K : PySem.W.Frag} {mg : Str → Option Value} {base : Heap} {f : Addr} {fd : FuncData}

def fWord : List PyData → PyData
  | [d] => .bool (wordD d)
  | _ => .none
def fRule : List PyData → PyData
  | [d, .int n] => .bool (ruleD d n)
  | _ => .none
def fRules : List PyData → PyData
  | [d, .int n] => .bool (rulesD d n)
  | _ => .none
def numsD (d : PyData) (n : Int) : Bool := match d with
  | .tuple ds => ds.all fun e => inB e 0 (n - 1)
  | _ => false
def fNums : List PyData → PyData
  | [d, .int n] => .bool (numsD d n)
  | _ => .none
def preW (ds : List PyData) : Prop := ∃ d, ds = [d] ∧ Sm 60 d
def preR (ds : List PyData) : Prop := ∃ d n, ds = [d, .int n] ∧ Sm 60 d
theorem leL (ds : List PyData) (k : Int) : decide (((ds.length : Nat) : Int) < k) = decide ((ds.length : Int) < k) := rfl
theorem three (d : PyData) : (∃ x y p ps, d = .tuple (x :: y :: p :: ps)) ∨ (isTupD d = false ∧ ∀ n, ruleD d n = false) ∨ (∃ ds, d = .tuple ds ∧ ds.length < 3 ∧ ∀ n, ruleD d n = false) := by
  cases d with
  | tuple ds =>
    rcases ds with _ | ⟨x, _ | ⟨y, _ | ⟨p, ps⟩⟩⟩
    · exact .inr (.inr ⟨_, rfl, by simp, fun _ => rfl⟩)
    · exact .inr (.inr ⟨_, rfl, by simp, fun _ => rfl⟩)
    · exact .inr (.inr ⟨_, rfl, by simp, fun _ => by unfold ruleD; split <;> simp_all⟩)
    · exact .inl ⟨_, _, _, _, rfl⟩
  | _ => exact .inr (.inl ⟨rfl, fun _ => rfl⟩)
theorem at3_0 {x y p : PyData} {ps : List PyData} : atI (x :: y :: p :: ps) 0 = some x := atI_nat (j := 0) rfl
theorem at3_1 {x y p : PyData} {ps : List PyData} : atI (x :: y :: p :: ps) 1 = some y := atI_nat (j := 1) rfl
theorem at3_2 {x y p : PyData} {ps : List PyData} : atI (x :: y :: p :: ps) 2 = some p := atI_nat (j := 2) rfl
theorem isStr_is {d : PyData} (h : isStrD d = true) : ∃ s, d = .str s := by
  cases d with
  | str s => exact ⟨s, rfl⟩
  | _ => cases h
theorem cut2 {x y : PyData} {l : List PyData} : cutL (x :: y :: l) (some 2) none = l := by
  unfold cutL HT.sIx
  simp
theorem cut1 {x : PyData} {l : List PyData} : cutL (x :: l) none (some 1) = [x] := by
  unfold cutL HT.sIx
  simp
theorem lenk (x y p : PyData) (ps : List PyData) (k : Nat) : PyData.eqv (.int (lenD (.tuple (x :: y :: p :: ps)))) (.int ((k : Int) + 2)) = decide ((p :: ps).length = k) := by
  rw [eqv_int]
  show ((((ps.length + 1 + 1 + 1 : Nat)) : Int) == (k : Int) + 2) = decide (ps.length + 1 = k)
  rw [Bool.eq_iff_iff, beq_iff_eq, decide_eq_true_eq]
  omega
theorem pyStr {F : Fm} {σ : L2.St} {B : Hp} {x y z : Str} (hx : x.length ≤ sizeLine := by decide) (hy : y.length ≤ sizeLine := by decide) (hz : z.length ≤ sizeLine := by decide) : ED F K (tLst (tCons (tC (.str x)) (tCons (tC (.str y)) (tCons (tC (.str z)) tNil)))) σ B (.list ([x, y, z].map .str)) := ed_lst (eds_cons (ed_str hx) (eds_cons (ed_str hy) (eds_cons (ed_str hz) eds_nil)))
theorem pyStr2 {F : Fm} {σ : L2.St} {B : Hp} {x y : Str} (hx : x.length ≤ sizeLine := by decide) (hy : y.length ≤ sizeLine := by decide) : ED F K (tLst (tCons (tC (.str x)) (tCons (tC (.str y)) tNil))) σ B (.list ([x, y].map .str)) := ed_lst (eds_cons (ed_str hx) (eds_cons (ed_str hy) eds_nil))
theorem flatS (L : List Str) : (L.map PyData.str).all flatD = true := by
  rw [List.all_map]
  exact List.all_eq_true.mpr fun _ _ => rfl
theorem inSL {F : Fm} {σ : L2.St} {B : Hp} {ta tb : TE} {s : Str} {L : List Str} (h1 : ED F K ta σ B (.str s)) (h2 : ED F K tb σ B (.list (L.map .str))) : ED F K (tOp (rIn K false) ta tb) σ B (.bool (inS s L)) := ed_is (ed_op h1 h2 (rd_isin (.inl rfl) rfl (flatS L))) (by rw [inD_str])
theorem inST {F : Fm} {σ : L2.St} {B : Hp} {ta tb : TE} {s : Str} {L : List Str} (h1 : ED F K ta σ B (.str s)) (h2 : ED F K tb σ B (.tuple (L.map .str))) : ED F K (tOp (rIn K false) ta tb) σ B (.bool (inS s L)) := ed_is (ed_op h1 h2 (rd_isin (.inr rfl) rfl (flatS L))) (by rw [inD_str])

abbrev s_is_word : Stmt := topS 5
abbrev N_is_word : List Str := ["value", "sign"]
theorem sc_is_word : FnScope N_is_word ["value"] (defScope s_is_word) := ⟨rfl, rfl, rfl, by decide +kernel, rfl, by decide +kernel, by decide +kernel⟩
theorem ok_is_word (F : Fun K "is_word" "is_word" s_is_word f fd) (T : TC K mg) : FnOk P w K mg base CX0 1 f fd ["value"] (spF K pre1 fWord) := by
  refine F.ok sc_is_word (fun vs H Q E h => ?_) (fun cdv A outer s H vs Q E hr h => ?_)
  · obtain ⟨B, ds, e, hd, ⟨d, rfl⟩, q⟩ := h
    exact hd.len
  · obtain ⟨B, ds, e, hd, ⟨d, rfl⟩, q⟩ := h
    obtain ⟨v, rfl, hv⟩ := arg1 hd
    refine ⟨_, (pss_cons (ps_if (PW.pt (pw_or (pt_not (pt_val (pe_callB (call_isiK1 K) (by rfl) T.m_isinstance bt_isinstance (pa_cons (pv 0) (pa_cons (pe_bltn (v := .ty "str") (by rfl) T.m_str bt_str rfl) pa_nil))))) (pw_or1 (pt_not (pt_chain op_le op_le pe_int (pe_callB (call_lenK K) (by rfl) T.m_len bt_len (pa_cons (pv 0) pa_nil)) (pe_gint rfl T.c_MOST_LETTERS)))))) (pss_one (ps_ret pe_bl)) pss_nil)
      (pss_one (ps_ret (pe_callB (cr_allK K) (by rfl) T.m_all bt_all (pa_cons (pe_lc (own := [("sign", 1)]) rfl sc_is_word.nd (pi_str (pv 0)) (blkOk_by (own := [("sign", 1)]) (N := N_is_word) (sc := defScope s_is_word) (by decide +kernel)) (fun _ _ _ _ _ => pg_name (i := 1) sc_is_word.nd rfl (Or.inl rfl)) (fun _ _ _ _ _ => pts_nil) (fun _ _ _ _ _ => (pe_chain op_le_str op_le_str pe_str (pv 1) pe_str))) pa_nil))))), ?_⟩
    have a : At Fm.pure B H B H := At.start (Ok.any e)
    have fin : ∀ b B1 H1, At Fm.pure B H B1 H1 → b = wordD d → Q (.bl b) H1 := fun b B1 H1 a1 eb => by
      refine q _ B1 H1 a1.st ?_
      show Dd K B1 (.bl b) (.bool (wordD d))
      rw [eb]
      exact .bl _
    by_cases hs : isStrD d = true
    · obtain ⟨x, rfl⟩ := isStr_is hs
      refine qv_when (b := !(decide ((1 : Int) ≤ (x.length : Nat)) && decide (((x.length : Nat) : Int) ≤ 3))) a (et_is (et_or (b := false) (et_not (et_val (ed_isi (ed_var rfl hv) (kit_str _)))) fun _ => et_not (et_cmp (ed_chain (ed_int) (ev_cb (eds_cons (ed_var rfl hv) eds_nil) (rc_len rfl)) rd_le fun _ => ⟨_, ed_int, rd_le⟩))) (by rfl)) (fun hb B1 H1 e1 a1 => ?_) (fun hb B1 H1 e1 a1 => ?_)
      · refine sv_ret (P := DD K (.bool false)) a1 ed_bl fun v1 B2 H2 e2 a2 h2 => ?_
        obtain rfl := dd_bl h2
        refine fin _ B2 H2 a2 ?_
        rw [wordD_str]
        rw [Bool.not_eq_true'] at hb
        rw [hb]
        rfl
      · refine sv_ret (P := DD K (.bool (wordD (.str x)))) a1 (ed_is (ev_cb (eds_cons (ed_is (ed_lcS (fun _ => true) (fun c => .bool (!loS c && !hiS c)) (ed_var rfl (hv.up e1)) (fun _ => rfl) (fun c B2 _ _ => et_yes) (fun c B2 _ _ e2 => ed_chain (ed_str) (ed_var rfl (.str _ (by show 1 ≤ sizeLine; decide))) rd_leS fun _ => ⟨_, ed_str, rd_leS⟩)) (by rw [mapb])) eds_nil) rc_all) ?_) fun v1 B2 H2 e2 a2 h2 => ?_
        · rw [wordD_str]
          rw [Bool.not_eq_false'] at hb
          rw [hb, all_id]
          rfl
        · obtain rfl := dd_bl h2
          exact fin _ B2 H2 a2 rfl
    · have hs' : isStrD d = false := by simpa using hs
      refine qv_when (b := true) a (et_is (et_or (b := !isStrD d) (c := true) (et_not (et_val (ed_isi (ed_var rfl hv) (kit_str _)))) fun h => by rw [hs'] at h; cases h) (by rw [hs']; rfl)) (fun hb B1 H1 e1 a1 => ?_) (fun h => nomatch h)
      refine sv_ret (P := DD K (.bool false)) a1 ed_bl fun v1 B2 H2 e2 a2 h2 => ?_
      obtain rfl := dd_bl h2
      refine fin _ B2 H2 a2 ?_
      cases d <;> first | rfl | cases hs' 
abbrev s_is_rule : Stmt := topS 23
abbrev N_is_rule : List Str := ["value", "kinds", "part"]
theorem sc_is_rule : FnScope N_is_rule ["value", "kinds"] (defScope s_is_rule) := ⟨rfl, rfl, rfl, by decide +kernel, rfl, by decide +kernel, by decide +kernel⟩
theorem ok_is_rule (F : Fun K "is_rule" "is_rule" s_is_rule f fd) (T : TC K mg) (C_is_between : Callee P w K mg base "is_between" 2 ["value", "low", "high"] (spBetween K)) (C_is_word : Callee P w K mg base "is_word" 1 ["value"] (spF K pre1 fWord)) : FnOk P w K mg base CX0 3 f fd ["value", "kinds"] (spF K (fun ds => ∃ d n, ds = [d, .int n]) fRule) := by
  refine F.ok sc_is_rule (fun vs H Q E h => ?_) (fun cdv A outer s H vs Q E hr h => ?_)
  · obtain ⟨B, ds, e, hd, ⟨d, n, rfl⟩, q⟩ := h
    exact hd.len
  · obtain ⟨B, ds, e, hd, ⟨d, n, rfl⟩, q⟩ := h
    obtain ⟨v, v2, rfl, hv, hn⟩ := arg2 hd
    obtain rfl := dd_int hn
    have hu64 : (A.deeper (envOfC "is_rule" (defScope s_is_rule) s.heap.objs.size f cdv)).units + 64 < cLine := hr.units
    obtain ⟨WW, gW, hW⟩ := T.w_WORD.ex
    obtain ⟨WO, gO, hO⟩ := T.w_ONE.ex
    obtain ⟨WT, gT, hT⟩ := T.w_TWO.ex
    refine ⟨_, (pss_cons (ps_if (PW.pt (pw_or (pt_not (pt_val (pe_callB (call_isiK1 K) (by rfl) T.m_isinstance bt_isinstance (pa_cons (pv 0) (pa_cons (pe_bltn (v := .ty "tuple") (by rfl) T.m_tuple bt_tuple rfl) pa_nil))))) (pw_or (pt_cmpR op_lt (pe_callB (call_lenK K) (by rfl) T.m_len bt_len (pa_cons (pv 0) pa_nil)) pe_int (nomark _)) (pw_or1 (pt_not (pt_val (pe_callB (call_isiK1 K) (by rfl) T.m_isinstance bt_isinstance (pa_cons (pe_ix (ix_seqK K) (pv 0) pe_int (fun _ _ => rfl)) (pa_cons (pe_bltn (v := .ty "str") (by rfl) T.m_str bt_str rfl) pa_nil))))))))) (pss_one (ps_ret pe_bl)) pss_nil)
      (pss_cons (ps_if (pt_not (pt_val (pe_callC C_is_between (hr.mono (by decide)) rfl pass0 (pa_cons (pe_ix (ix_seqK K) (pv 0) pe_int (fun _ _ => rfl)) (pa_cons pe_int (pa_cons (pe_op op_sub (pv 1) pe_int) pa_nil)))))) (pss_one (ps_ret pe_bl)) pss_nil)
      (pss_cons (ps_if (pt_cmpR (op_inK K) (pe_ix (ix_seqK K) (pv 0) pe_int (fun _ _ => rfl)) (pe_glob (v := .ref WW) rfl gW rfl) (by rfl)) (pss_one (ps_ret (pe_and (pe_cmpR (op_eqDK K hu64) (pe_callB (call_lenK K) (by rfl) T.m_len bt_len (pa_cons (pv 0) pa_nil)) pe_int (nomark _)) (pe_one (pe_callC C_is_word (hr.mono (by decide)) rfl pass0 (pa_cons (pe_ix (ix_seqK K) (pv 0) pe_int (fun _ _ => rfl)) pa_nil)))))) pss_nil)
      (pss_cons (ps_if (pt_cmpR (op_inK K) (pe_ix (ix_seqK K) (pv 0) pe_int (fun _ _ => rfl)) (pe_glob (v := .ref WO) rfl gO rfl) (by rfl)) (pss_one (ps_ret (pe_and (pe_cmpR (op_eqDK K hu64) (pe_callB (call_lenK K) (by rfl) T.m_len bt_len (pa_cons (pv 0) pa_nil)) pe_int (nomark _)) (pe_one (pe_callC C_is_between (hr.mono (by decide)) rfl pass0 (pa_cons (pe_ix (ix_seqK K) (pv 0) pe_int (fun _ _ => rfl)) (pa_cons pe_int (pa_cons (pe_op op_sub (pv 1) pe_int) pa_nil)))))))) pss_nil)
      (pss_cons (ps_if (pt_cmpR (op_inK K) (pe_ix (ix_seqK K) (pv 0) pe_int (fun _ _ => rfl)) (pe_glob (v := .ref WT) rfl gT rfl) (by rfl)) (pss_one (ps_ret (pe_and (pe_cmpR (op_eqDK K hu64) (pe_callB (call_lenK K) (by rfl) T.m_len bt_len (pa_cons (pv 0) pa_nil)) pe_int (nomark _)) (pe_one (pe_callB (cr_allK K) (by rfl) T.m_all bt_all (pa_cons (pe_lc (own := [("part", 2)]) rfl sc_is_rule.nd (pi_seqK K (pe_slice (sl_anyK K) (pv 0) (po_some pe_int) po_none)) (blkOk_by (own := [("part", 2)]) (N := N_is_rule) (sc := defScope s_is_rule) (by decide +kernel)) (fun _ _ _ _ _ => pg_name (i := 2) sc_is_rule.nd rfl (Or.inl rfl)) (fun _ _ _ _ _ => pts_nil) (fun _ _ _ _ _ => (pe_callC C_is_between (hr.mono (by decide)) rfl pass0 (pa_cons (pv 2) (pa_cons pe_int (pa_cons (pe_op op_sub (pv 1) pe_int) pa_nil)))))) pa_nil)))))) pss_nil)
      (pss_one (ps_ret pe_bl))))))), ?_⟩
    have a : At Fm.pure B H B H := At.start (Ok.any e)
    have fin : ∀ b B1 H1, At Fm.pure B H B1 H1 → b = ruleD d n → Q (.bl b) H1 := fun b B1 H1 a1 eb => by
      refine q _ B1 H1 a1.st ?_
      show Dd K B1 (.bl b) (.bool (ruleD d n))
      rw [eb]
      exact .bl _
    rcases three d with ⟨x, y, p, ps, rfl⟩ | ⟨h1, h2⟩ | ⟨xs, rfl, h1, h2⟩
    · have i0 : ∀ B1 (σ : L2.St), Ex B B1 → σ[0]? = some (some v) → ED Fm.pure K (tOp (rIx K) (tVar 0) (tC (.int 0))) σ B1 x := fun B1 σ e1 hσ => ed_op (ed_var hσ (hv.up e1)) ed_int (rd_ixT at3_0)
      have i1 : ∀ B1 (σ : L2.St), Ex B B1 → σ[0]? = some (some v) → ED Fm.pure K (tOp (rIx K) (tVar 0) (tC (.int 1))) σ B1 y := fun B1 σ e1 hσ => ed_op (ed_var hσ (hv.up e1)) ed_int (rd_ixT at3_1)
      have i2 : ∀ B1 (σ : L2.St), Ex B B1 → σ[0]? = some (some v) → ED Fm.pure K (tOp (rIx K) (tVar 0) (tC (.int 2))) σ B1 p := fun B1 σ e1 hσ => ed_op (ed_var hσ (hv.up e1)) ed_int (rd_ixT at3_2)
      have ln : ∀ B1 (σ : L2.St), Ex B B1 → σ[0]? = some (some v) → ED Fm.pure K (tCB (rLnK K) (tCons (tVar 0) tNil)) σ B1 (.int (lenD (.tuple (x :: y :: p :: ps)))) := fun B1 σ e1 hσ => ev_cb (eds_cons (ed_var hσ (hv.up e1)) eds_nil) (rc_len rfl)
      have n1 : ∀ B1 (σ : L2.St), σ[1]? = some (some (.int n)) → ED Fm.pure K (tOp (rI0 fun i j => .int (i - j)) (tVar 1) (tC (.int 1))) σ B1 (.int (n - 1)) := fun B1 σ hσ => ed_op (ed_var hσ (.int n)) ed_int rd_sub
      refine qv_when (b := !isStrD y) a (et_is (et_or (b := false) (et_not (et_val (ed_isi (ed_var rfl hv) (kit_tup _)))) fun _ => et_or (b := false) (et_is (et_cmp (ed_op (ln _ _ (Ex.refl B) rfl) ed_int rd_lt)) (decide_eq_false (by show ¬ (((ps.length + 1 + 1 + 1 : Nat) : Int) < 3); omega))) fun _ => et_not (et_val (ed_isi (i1 _ _ (Ex.refl B) rfl) (kit_str y)))) (by rfl)) (fun hb B1 H1 e1 a1 => ?_) (fun hb B1 H1 e1 a1 => ?_)
      · refine sv_ret (P := DD K (.bool false)) a1 ed_bl fun v1 B2 H2 e2 a2 h2 => ?_
        obtain rfl := dd_bl h2
        refine fin _ B2 H2 a2 ?_
        cases y <;> first | rfl | cases hb
      obtain ⟨s, rfl⟩ := isStr_is (by simpa using hb)
      have rl : ruleD (.tuple (x :: .str s :: p :: ps)) n = (inB x 0 (n - 1) && tailD s (p :: ps) n) := rfl
      refine qv_when (b := !inB x 0 (n - 1)) a1 (et_not (et_val (ed_F (eds_cons (i0 _ _ e1 rfl) (eds_cons ed_int (eds_cons (n1 _ _ rfl) eds_nil))) ⟨_, _, _, rfl⟩ rfl))) (fun hb2 B2 H2 e2 a2 => ?_) (fun hb2 B2 H2 e2 a2 => ?_)
      · refine sv_ret (P := DD K (.bool false)) a2 ed_bl fun v1 B3 H3 e3 a3 h3 => ?_
        obtain rfl := dd_bl h3
        refine fin _ B3 H3 a3 ?_
        rw [rl]
        rw [Bool.not_eq_true'] at hb2
        rw [hb2]
        rfl
      have hx : inB x 0 (n - 1) = true := by simpa using hb2
      have rl2 : ruleD (.tuple (x :: .str s :: p :: ps)) n = tailD s (p :: ps) n := by rw [rl, hx]; rfl
      refine qv_when (b := inS s WSH) a2 (et_cmp (inST (i1 _ _ (e1.trans e2) rfl) (ed_v (hW B2)))) (fun hb3 B3 H3 e3 a3 => ?_) (fun hb3 B3 H3 e3 a3 => ?_)
      · refine sv_ret (P := DD K (.bool (ruleD (.tuple (x :: .str s :: p :: ps)) n))) a3 (ed_is (ed_andV (b := decide ((p :: ps).length = 1)) (c := wordD p) (ed_is (ed_op (ln _ _ ((e1.trans e2).trans e3) rfl) ed_int (rd_eqD rfl rfl)) (by rw [← lenk x (.str s) p ps 1]; rfl)) fun _ => ed_F (eds_cons (i2 _ _ ((e1.trans e2).trans e3) rfl) eds_nil) ⟨_, rfl⟩ rfl) ?_) fun v1 B4 H4 e4 a4 h4 => ?_
        · rw [rl2]
          unfold tailD
          rw [if_pos hb3]
          rfl
        · obtain rfl := dd_bl h4
          exact fin _ B4 H4 a4 rfl
      refine qv_when (b := inS s OSH) a3 (et_cmp (inST (i1 _ _ ((e1.trans e2).trans e3) rfl) (ed_v (hO B3)))) (fun hb4 B4 H4 e4 a4 => ?_) (fun hb4 B4 H4 e4 a4 => ?_)
      · refine sv_ret (P := DD K (.bool (ruleD (.tuple (x :: .str s :: p :: ps)) n))) a4 (ed_is (ed_andV (b := decide ((p :: ps).length = 1)) (c := inB p 0 (n - 1)) (ed_is (ed_op (ln _ _ (((e1.trans e2).trans e3).trans e4) rfl) ed_int (rd_eqD rfl rfl)) (by rw [← lenk x (.str s) p ps 1]; rfl)) fun _ => ed_F (eds_cons (i2 _ _ (((e1.trans e2).trans e3).trans e4) rfl) (eds_cons ed_int (eds_cons (n1 _ _ rfl) eds_nil))) ⟨_, _, _, rfl⟩ rfl) ?_) fun v1 B5 H5 e5 a5 h5 => ?_
        · rw [rl2]
          unfold tailD
          rw [hb3, if_neg (by decide), if_pos hb4]
          rfl
        · obtain rfl := dd_bl h5
          exact fin _ B5 H5 a5 rfl
      refine qv_when (b := inS s TSH) a4 (et_cmp (inST (i1 _ _ (((e1.trans e2).trans e3).trans e4) rfl) (ed_v (hT B4)))) (fun hb5 B5 H5 e5 a5 => ?_) (fun hb5 B5 H5 e5 a5 => ?_)
      · have e0 := (((e1.trans e2).trans e3).trans e4).trans e5
        have sl := ed_slT (F := Fm.pure) (K := K) (σ := [some v, some (.int n), none]) (ed_var (i := 0) rfl (hv.up e0)) (eo_some (K := K) (i := 2) ed_int) eo_none
        rw [cut2] at sl
        refine sv_ret (P := DD K (.bool (ruleD (.tuple (x :: .str s :: p :: ps)) n))) a5 (ed_is (ed_andV (b := decide ((p :: ps).length = 2)) (c := (p :: ps).all fun d => inB d 0 (n - 1)) (ed_is (ed_op (ln _ _ e0 rfl) ed_int (rd_eqD rfl rfl)) (by rw [← lenk x (.str s) p ps 2]; rfl)) fun hl => ?_) ?_) fun v1 B6 H6 e6 a6 h6 => ?_
        · have hl' : (p :: ps).length = 2 := of_decide_eq_true hl
          exact ed_is (ev_cb (eds_cons (ed_is (ed_lcD (fun _ => true) (fun d => .bool (inB d 0 (n - 1))) (ev_seqT sl) (by rw [hl']; decide) (fun _ => rfl) (fun d v B6 _ _ _ => et_yes) (fun d v B6 _ _ e6 hdv => ed_F (eds_cons (ed_var rfl hdv) (eds_cons ed_int (eds_cons (n1 _ _ rfl) eds_nil))) ⟨_, _, _, rfl⟩ rfl)) (by rw [mapb])) eds_nil) rc_all) (by rw [all_id])
        · rw [rl2]
          unfold tailD
          rw [hb3, hb4, hb5, if_neg (by decide), if_neg (by decide)]
          rfl
        · obtain rfl := dd_bl h6
          exact fin _ B6 H6 a6 rfl
      · refine sv_ret (P := DD K (.bool false)) a5 ed_bl fun v1 B6 H6 e6 a6 h6 => ?_
        obtain rfl := dd_bl h6
        refine fin _ B6 H6 a6 ?_
        rw [rl2]
        unfold tailD
        rw [hb3, hb4, hb5]
        rfl
    · refine qv_when (b := true) a (et_is (et_or (b := !isTupD d) (c := true) (et_not (et_val (ed_isi (ed_var rfl hv) (kit_tup _)))) fun h => by rw [h1] at h; cases h) (by rw [h1]; rfl)) (fun hb B1 H1 e1 a1 => ?_) (fun h => nomatch h)
      refine sv_ret (P := DD K (.bool false)) a1 ed_bl fun v1 B2 H2 e2 a2 g2 => ?_
      obtain rfl := dd_bl g2
      exact fin _ B2 H2 a2 (h2 n).symm
    · refine qv_when (b := true) a (et_is (et_or (b := false) (c := true) (et_not (et_val (ed_isi (ed_var rfl hv) (kit_tup _)))) fun _ => et_is (et_or (b := true) (c := true) (et_is (et_cmp (ed_op (ev_cb (eds_cons (ed_var rfl hv) eds_nil) (rc_len rfl)) ed_int rd_lt)) (decide_eq_true (by show ((xs.length : Nat) : Int) < 3; omega))) fun h => nomatch h) rfl) rfl) (fun hb B1 H1 e1 a1 => ?_) (fun h => nomatch h)
      refine sv_ret (P := DD K (.bool false)) a1 ed_bl fun v1 B2 H2 e2 a2 g2 => ?_
      obtain rfl := dd_bl g2
      exact fin _ B2 H2 a2 (h2 n).symm
abbrev s_is_rules : Stmt := topS 22
abbrev N_is_rules : List Str := ["value", "kinds", "rule"]
theorem sc_is_rules : FnScope N_is_rules ["value", "kinds"] (defScope s_is_rules) := ⟨rfl, rfl, rfl, by decide +kernel, rfl, by decide +kernel, by decide +kernel⟩
theorem tup_is {d : PyData} (h : isTupD d = true) : ∃ ds, d = .tuple ds := by
  cases d with
  | tuple ds => exact ⟨ds, rfl⟩
  | _ => cases h
theorem ok_is_rules (F : Fun K "is_rules" "is_rules" s_is_rules f fd) (T : TC K mg) (C_is_rule : Callee P w K mg base "is_rule" 3 ["value", "kinds"] (spF K (fun ds => ∃ d n, ds = [d, .int n]) fRule)) : FnOk P w K mg base CX0 4 f fd ["value", "kinds"] (spF K (fun ds => ∃ d n, ds = [d, .int n]) fRules) := by
  refine F.ok sc_is_rules (fun vs H Q E h => ?_) (fun cdv A outer s H vs Q E hr h => ?_)
  · obtain ⟨B, ds, e, hd, ⟨d, n, rfl⟩, q⟩ := h
    exact hd.len
  · obtain ⟨B, ds, e, hd, ⟨d, n, rfl⟩, q⟩ := h
    obtain ⟨v, v2, rfl, hv, hn⟩ := arg2 hd
    obtain rfl := dd_int hn
    refine ⟨_, (pss_cons (ps_if (PW.pt (pw_or (pt_not (pt_val (pe_callB (call_isiK1 K) (by rfl) T.m_isinstance bt_isinstance (pa_cons (pv 0) (pa_cons (pe_bltn (v := .ty "tuple") (by rfl) T.m_tuple bt_tuple rfl) pa_nil))))) (pw_or1 (pt_not (pt_chain op_le op_le pe_int (pe_callB (call_lenK K) (by rfl) T.m_len bt_len (pa_cons (pv 0) pa_nil)) (pe_gint rfl T.c_MOST_RULES)))))) (pss_one (ps_ret pe_bl)) pss_nil)
      (pss_one (ps_ret (pe_callB (cr_allK K) (by rfl) T.m_all bt_all (pa_cons (pe_lc (own := [("rule", 2)]) rfl sc_is_rules.nd (pi_seqK K (pv 0)) (blkOk_by (own := [("rule", 2)]) (N := N_is_rules) (sc := defScope s_is_rules) (by decide +kernel)) (fun _ _ _ _ _ => pg_name (i := 2) sc_is_rules.nd rfl (Or.inl rfl)) (fun _ _ _ _ _ => pts_nil) (fun _ _ _ _ _ => (pe_callC C_is_rule (hr.mono (by decide)) rfl pass0 (pa_cons (pv 2) (pa_cons (pv 1) pa_nil))))) pa_nil))))), ?_⟩
    have a : At Fm.pure B H B H := At.start (Ok.any e)
    have fin : ∀ b B1 H1, At Fm.pure B H B1 H1 → b = rulesD d n → Q (.bl b) H1 := fun b B1 H1 a1 eb => by
      refine q _ B1 H1 a1.st ?_
      show Dd K B1 (.bl b) (.bool (rulesD d n))
      rw [eb]
      exact .bl _
    by_cases hs : isTupD d = true
    · obtain ⟨x, rfl⟩ := tup_is hs
      refine qv_when (b := !(decide ((1 : Int) ≤ (x.length : Nat)) && decide (((x.length : Nat) : Int) ≤ 90))) a (et_is (et_or (b := false) (et_not (et_val (ed_isi (ed_var rfl hv) (kit_tup _)))) fun _ => et_not (et_cmp (ed_chain (ed_int) (ev_cb (eds_cons (ed_var rfl hv) eds_nil) (rc_len rfl)) rd_le fun _ => ⟨_, ed_int, rd_le⟩))) (by rfl)) (fun hb B1 H1 e1 a1 => ?_) (fun hb B1 H1 e1 a1 => ?_)
      · refine sv_ret (P := DD K (.bool false)) a1 ed_bl fun v1 B2 H2 e2 a2 h2 => ?_
        obtain rfl := dd_bl h2
        refine fin _ B2 H2 a2 ?_
        rw [rulesD_tup]
        rw [Bool.not_eq_true'] at hb
        rw [hb]
        rfl
      · rw [Bool.not_eq_false'] at hb
        have hz : x.length ≤ 90 := by
          rw [Bool.and_eq_true, decide_eq_true_eq, decide_eq_true_eq] at hb
          omega
        refine sv_ret (P := DD K (.bool (rulesD (.tuple x) n))) a1 (ed_is (ev_cb (eds_cons (ed_is (ed_lcD (fun _ => true) (fun d => .bool (ruleD d n)) (ev_seqT (ed_var rfl (hv.up e1))) (by omega) (fun _ => rfl) (fun d v B2 _ _ _ => et_yes) (fun d v B2 _ _ e2 hdv => ed_F (eds_cons (ed_var rfl hdv) (eds_cons (ed_var rfl (.int n)) eds_nil)) ⟨_, _, rfl⟩ rfl)) (by rw [mapb])) eds_nil) rc_all) ?_) fun v1 B2 H2 e2 a2 h2 => ?_
        · rw [rulesD_tup]
          rw [hb, all_id]
          rfl
        · obtain rfl := dd_bl h2
          exact fin _ B2 H2 a2 rfl
    · have hs' : isTupD d = false := by simpa using hs
      refine qv_when (b := true) a (et_is (et_or (b := !isTupD d) (c := true) (et_not (et_val (ed_isi (ed_var rfl hv) (kit_tup _)))) fun h => by rw [hs'] at h; cases h) (by rw [hs']; rfl)) (fun hb B1 H1 e1 a1 => ?_) (fun h => nomatch h)
      refine sv_ret (P := DD K (.bool false)) a1 ed_bl fun v1 B2 H2 e2 a2 h2 => ?_
      obtain rfl := dd_bl h2
      refine fin _ B2 H2 a2 ?_
      cases d <;> first | rfl | cases hs' 
end
end K12

namespace K12
open PySem PySem.Spec PyProof.Rows L2 Evl Ex Dx
open PySem.PyData (strOk)

section
variable {P : Program} {w : World} {K : PySem.W.Frag} {mg : Str → Option Value} {base : Heap} {f : Addr} {fd : FuncData}

abbrev s_law_whole : Stmt := topS 43
abbrev N_law_whole : List Str := ["value"]
theorem sc_law_whole : FnScope N_law_whole ["value"] (defScope s_law_whole) := ⟨rfl, rfl, rfl, by decide +kernel, rfl, by decide +kernel, by decide +kernel⟩
theorem ok_law_whole (F : Fun K "_law_whole" "_law_whole" s_law_whole f fd) (T : TC K mg) : FnOk P w K mg base CX0 1 f fd ["value"] (spInt K) := by
  refine F.ok sc_law_whole (fun vs H Q E h => ?_) (fun cdv A outer s H vs Q E hr h => ?_)
  · obtain ⟨B, ds, e, hd, ⟨d, rfl⟩, q⟩ := h
    exact hd.len
  · obtain ⟨B, ds, e, hd, ⟨d, rfl⟩, q⟩ := h
    obtain ⟨v, rfl, hv⟩ := arg1 hd
    refine ⟨_, (pss_one (ps_ret (pe_and (pe_callB (call_isiK1 K) (by rfl) T.m_isinstance bt_isinstance (pa_cons (pv 0) (pa_cons (pe_bltn (v := .ty "int") (by rfl) T.m_int bt_int rfl) pa_nil))) (pe_one (pe_not (pe_callB (call_isiK1 K) (by rfl) T.m_isinstance bt_isinstance (pa_cons (pv 0) (pa_cons (pe_bltn (v := .ty "bool") (by rfl) T.m_bool bt_bool rfl) pa_nil)))))))), ?_⟩
    have a : At Fm.pure B H B H := At.start (Ok.any e)
    have e2 : (isIntD d && !isBoolD d) = isI d := by cases d <;> rfl
    refine sv_ret (P := DD K (.bool (isI d))) a (ed_is (ed_andV (ed_isi (ed_var rfl hv) (kit_int d)) (fun _ => ed_notV (ed_isi (ed_var rfl hv) (kit_bool d)))) (by rw [e2])) fun v B1 H1 e1 a1 h1 => ?_
    exact q v B1 H1 a1.st h1
theorem isI_is {d : PyData} (h : isI d = true) : ∃ i, d = .int i := by
  cases d with
  | int i => exact ⟨i, rfl⟩
  | _ => cases h
theorem numsD_tup (ds : List PyData) (n : Int) : numsD (.tuple ds) n = ds.all fun e => inB e 0 (n - 1) := rfl
theorem inB_not (d : PyData) (n : Int) (h : isI d = false) : inB d 0 (n - 1) = false := by
  cases d <;> first | rfl | cases h
abbrev s_law_is_numbers : Stmt := topS 44
abbrev N_law_is_numbers : List Str := ["value", "many", "one"]
theorem sc_law_is_numbers : FnScope N_law_is_numbers ["value", "many"] (defScope s_law_is_numbers) := ⟨rfl, rfl, rfl, by decide +kernel, rfl, by decide +kernel, by decide +kernel⟩
theorem ok_law_is_numbers (F : Fun K "_law_is_numbers" "_law_is_numbers" s_law_is_numbers f fd) (T : TC K mg) (C_law_whole : Callee P w K mg base "_law_whole" 1 ["value"] (spInt K)) : FnOk P w K mg base CX0 2 f fd ["value", "many"] (spF K (fun ds => ∃ d n, ds = [d, .int n] ∧ Sm 60 d) fNums) := by
  refine F.ok sc_law_is_numbers (fun vs H Q E h => ?_) (fun cdv A outer s H vs Q E hr h => ?_)
  · obtain ⟨B, ds, e, hd, ⟨d, n, rfl, hs⟩, q⟩ := h
    exact hd.len
  · obtain ⟨B, ds, e, hd, ⟨d, n, rfl, hs⟩, q⟩ := h
    obtain ⟨v, v2, rfl, hv, hn⟩ := arg2 hd
    obtain rfl := dd_int hn
    have hu64 : (A.deeper (envOfC "_law_is_numbers" (defScope s_law_is_numbers) s.heap.objs.size f cdv)).units + 64 < cLine := hr.units
    refine ⟨_, (pss_cons (ps_if (pt_not (pt_val (pe_callB (call_isiK1 K) (by rfl) T.m_isinstance bt_isinstance (pa_cons (pv 0) (pa_cons (pe_bltn (v := .ty "tuple") (by rfl) T.m_tuple bt_tuple rfl) pa_nil))))) (pss_one (ps_ret pe_bl)) pss_nil)
      (pss_one (ps_ret (pe_cmpR (op_eqDK K hu64) (pe_lc (own := [("one", 2)]) rfl sc_law_is_numbers.nd (pi_seqK K (pv 0)) (blkOk_by (own := [("one", 2)]) (N := N_law_is_numbers) (sc := defScope s_law_is_numbers) (by decide +kernel)) (fun _ _ _ _ _ => pg_name (i := 2) sc_law_is_numbers.nd rfl (Or.inl rfl)) (fun _ _ _ _ _ => (pts_one (PW.pt (pw_or (pt_not (pt_val (pe_callC C_law_whole (hr.mono (by decide)) rfl pass0 (pa_cons (pv 2) pa_nil)))) (pw_or (pt_cmpR op_lt (pv 2) pe_int (nomark _)) (pw_or1 (pt_cmpR op_ge (pv 2) (pv 1) (nomark _)))))))) (fun _ _ _ _ _ => (pv 2))) (pe_lst pa_nil) (nomark _))))), ?_⟩
    have a : At Fm.pure B H B H := At.start (Ok.any e)
    have fin : ∀ b B1 H1, At Fm.pure B H B1 H1 → b = numsD d n → Q (.bl b) H1 := fun b B1 H1 a1 eb => by
      refine q _ B1 H1 a1.st ?_
      show Dd K B1 (.bl b) (.bool (numsD d n))
      rw [eb]
      exact .bl _

    refine qv_when (b := !isTupD d) a (et_not (et_val (ed_isi (ed_var rfl hv) (kit_tup _)))) (fun hb B1 H1 e1 a1 => ?_) (fun hb B1 H1 e1 a1 => ?_)
    · refine sv_ret (P := DD K (.bool false)) a1 ed_bl fun v1 B2 H2 e2 a2 h2 => ?_
      obtain rfl := dd_bl h2
      refine fin _ B2 H2 a2 ?_
      cases d <;> first | rfl | cases hb
    · obtain ⟨xs, rfl⟩ := tup_is (by simpa using hb)
      have hz : xs.length ≤ 16777216 := by
        obtain ⟨p, us, _, _, l1, g1⟩ := dd_tup hv
        rw [← g1.len, ← sizeLine_eq]
        exact l1
      refine sv_ret (P := DD K (.bool (numsD (.tuple xs) n))) a1 (ed_is (ed_op (ed_lcD (fun d => !inB d 0 (n - 1)) (fun d => d) (ev_seqT (ed_var rfl (hv.up e1))) hz (fun _ => rfl) (fun d v B2 _ _ hdv => ?_) (fun d v B2 _ _ _ hdv => ed_var rfl hdv)) (ed_lst eds_nil) (rd_eqD (Sm.sh (sm_filter (n := 59) fun d hd => hs.memT hd)) rfl)) ?_) fun v1 B2 H2 e2 a2 h2 => ?_
      · refine et_is (et_or (b := !isI d) (c := !inB d 0 (n - 1)) (et_not (et_val (ed_F (eds_cons (ed_var rfl hdv) eds_nil) ⟨_, rfl⟩ rfl))) fun hi => ?_) ?_
        · obtain ⟨i, rfl⟩ := isI_is (by simpa using hi)
          refine et_is (et_or (et_cmp (ed_op (ed_var rfl hdv) ed_int rd_lt)) fun _ => et_cmp (ed_op (ed_var rfl hdv) (ed_var rfl (.int n)) rd_ge)) ?_
          show (decide (i < 0) || decide (n ≤ i)) = !(decide (0 ≤ i) && decide (i ≤ n - 1))
          rw [Bool.eq_iff_iff]
          simp only [Bool.or_eq_true, decide_eq_true_eq, Bool.not_eq_true', Bool.and_eq_false_iff, decide_eq_false_iff_not]
          omega
        · cases h : isI d with
          | true => rfl
          | false => rw [inB_not d n h]; rfl
      · rw [eqv_nil, List.map_id', filter_emp, numsD_tup]
        simp only [Bool.not_not]
      · obtain rfl := dd_bl h2
        exact fin _ B2 H2 a2 rfl
abbrev s_law_is_due : Stmt := topS 45
abbrev N_law_is_due : List Str := ["told", "due"]
theorem sc_law_is_due : FnScope N_law_is_due ["told", "due"] (defScope s_law_is_due) := ⟨rfl, rfl, rfl, by decide +kernel, rfl, by decide +kernel, by decide +kernel⟩
def fIs : List PyData → PyData
  | [.bool a, .bool b] => .bool (a == b)
  | _ => .none
theorem ok_law_is_due (F : Fun K "_law_is_due" "_law_is_due" s_law_is_due f fd) (T : TC K mg) : FnOk P w K mg base CX0 1 f fd ["told", "due"] (spF K (fun ds => ∃ a b, ds = [.bool a, .bool b]) fIs) := by
  refine F.ok sc_law_is_due (fun vs H Q E h => ?_) (fun cdv A outer s H vs Q E hr h => ?_)
  · obtain ⟨B, ds, e, hd, ⟨x, y, rfl⟩, q⟩ := h
    exact hd.len
  · obtain ⟨B, ds, e, hd, ⟨x, y, rfl⟩, q⟩ := h
    obtain ⟨v, v2, rfl, hv, hn⟩ := arg2 hd
    obtain rfl := dd_bl hn
    obtain rfl := dd_bl hv
    refine ⟨_, (pss_one (ps_ret (pe_ifExp (pt_tru K (pv 1)) (pe_cmpR op_isBl (pv 0) pe_bl (nomark _)) (pe_cmpR op_isBl (pv 0) pe_bl (nomark _))))), ?_⟩
    have a : At Fm.pure B H B H := At.start (Ok.any e)

    refine sv_ret (P := DD K (.bool (x == y))) a (ev_if (et_tru (ed_var rfl (.bl y))) (fun hy => ed_is (ed_op (ed_var rfl (.bl x)) ed_bl rd_isB) ?_) (fun hy => ed_is (ed_op (ed_var rfl (.bl x)) ed_bl rd_isB) ?_)) fun v1 B2 H2 e2 a2 h2 => ?_
    · have hy' : y = true := hy
      subst hy'
      cases x <;> rfl
    · have hy' : y = false := hy
      subst hy'
      cases x <;> rfl
    · exact q _ B2 H2 a2.st h2
theorem in123 (n : Nat) : inD (.int (n : Nat)) [.int 1, .int 2, .int 3] = (decide ((1 : Int) ≤ (n : Nat)) && decide (((n : Nat) : Int) ≤ 3)) := by
  unfold inD
  simp only [List.any_cons, List.any_nil, eqv_int, Bool.or_false]
  rw [Bool.eq_iff_iff]
  simp only [Bool.or_eq_true, beq_iff_eq, Bool.and_eq_true, decide_eq_true_eq]
  omega
theorem numsD_one (x : PyData) (n : Int) : numsD (.tuple [x]) n = inB x 0 (n - 1) := by
  rw [numsD_tup, List.all_cons, List.all_nil, Bool.and_true]
end
end K12

namespace K12
open PySem PySem.Spec PyProof.Rows L2 Evl Ex Dx
open PySem.PyData (strOk)

section
variable {P : Program} {w : World} {K : PySem.W.Frag} {mg : Str → Option Value} {base : Heap} {f : Addr} {fd : FuncData}

def itemsD : PyData → List PyData
  | .list xs => xs
  | .tuple xs => xs
  | _ => []
def fUn : List PyData → PyData
  | [d] => .list ((edges (itemsD d)).map toD)
  | _ => .none
def preUn (ds : List PyData) : Prop := ∃ d rs n, ds = [d] ∧ (d = .list rs ∨ d = .tuple rs) ∧ rs.length ≤ 100 ∧ ∀ r ∈ rs, ruleD r n = true
def ofD (d : PyData) : Int × Int := match d with
  | .tuple [.int a, .int b] => (a, b)
  | _ => (0, 0)
theorem ofD_toD (E : List (Int × Int)) : (E.map toD).map ofD = E := by
  rw [List.map_map]
  exact List.map_id'' (fun _ => rfl) E
def fBack : List PyData → PyData
  | [.list es, .int n] => optD (backK (es.map ofD) n.toNat)
  | _ => .none
def preBack (ds : List PyData) : Prop := ∃ (E : List (Int × Int)) (n : Nat), ds = [.list (E.map toD), .int (n : Nat)] ∧ E.length ≤ 100 ∧ n ≤ 40
theorem inD_int (x : Int) (S : List Int) : inD (.int x) (S.map .int) = S.contains x := by
  unfold inD
  rw [List.any_map, Bool.eq_iff_iff, List.any_eq_true, List.contains_iff_mem]
  constructor
  · rintro ⟨y, hy, he⟩
    have e : (y == x) = true := (eqv_int y x).symm.trans he
    rw [beq_iff_eq] at e
    exact e ▸ hy
  · intro h
    exact ⟨x, h, (eqv_int x x).trans (beq_self_eq_true x)⟩
theorem flatI (S : List Int) : (S.map PyData.int).all flatD = true := by
  rw [List.all_map]
  exact List.all_eq_true.mpr fun _ _ => rfl
theorem lc_E (E : List (Int × Int)) (p : Int × Int → Bool) : ((E.map toD).filter fun d => p (ofD d)).map (fun d => PyData.int (ofD d).2) = ((E.filter p).map (·.2)).map PyData.int := by
  rw [List.filter_map, List.map_map, List.map_map]
  rfl
theorem backK_some {E : List (Int × Int)} {n i : Nat} (hi : i < n) (h : (Gm.turns E (i : Int) (n + 1)).contains (i : Int) = true) (hb : ∀ k, k < i → (Gm.turns E (k : Int) (n + 1)).contains (k : Int) = false) : backK E n = some (i : Int) := by
  unfold backK
  rw [List.find?_range_eq_some.mpr ⟨h, List.mem_range.mpr hi, fun j hj => by rw [hb j hj]; rfl⟩]
  rfl
theorem backK_none {E : List (Int × Int)} {n : Nat} (hb : ∀ k, k < n → (Gm.turns E (k : Int) (n + 1)).contains (k : Int) = false) : backK E n = none := by
  unfold backK
  rw [List.find?_eq_none.mpr fun k hk => by rw [hb k (List.mem_range.mp hk)]; decide]
  rfl
def tq (i : Int) (S : List Int) (q : Int × Int) : Bool := (q.1 == i || S.contains q.1) && !S.contains q.2
theorem at2_0 {x y : PyData} : atI [x, y] 0 = some x := atI_nat (j := 0) rfl
theorem at2_1 {x y : PyData} : atI [x, y] 1 = some y := atI_nat (j := 1) rfl

abbrev s_law_unary : Stmt := topS 49
abbrev N_law_unary : List Str := ["rules", "rule"]
theorem sc_law_unary : FnScope N_law_unary ["rules"] (defScope s_law_unary) := ⟨rfl, rfl, rfl, by decide +kernel, rfl, by decide +kernel, by decide +kernel⟩
theorem ok_law_unary (F : Fun K "_law_unary" "_law_unary" s_law_unary f fd) (T : TC K mg) : FnOk P w K mg base CX0 1 f fd ["rules"] (spF K preUn fUn) := by
  refine F.ok sc_law_unary (fun vs H Q E h => ?_) (fun cdv A outer s H vs Q E hr h => ?_)
  · obtain ⟨B, ds, e, hd, ⟨d, rs, n, rfl, hrs, hl, hv⟩, q⟩ := h
    exact hd.len
  · obtain ⟨B, ds, e, hd, ⟨d, rs, n, rfl, hrs, hl, hval⟩, q⟩ := h
    obtain ⟨v, rfl, hv⟩ := arg1 hd
    refine ⟨_, (pss_one (ps_ret (pe_lc (own := [("rule", 1)]) rfl sc_law_unary.nd (pi_seqK K (pv 0)) (blkOk_by (own := [("rule", 1)]) (N := N_law_unary) (sc := defScope s_law_unary) (by decide +kernel)) (fun _ _ _ _ _ => pg_name (i := 1) sc_law_unary.nd rfl (Or.inl rfl)) (fun _ _ _ _ _ => (pts_one (pt_cmpR (op_inK K) (pe_ix (ix_seqK K) (pv 1) pe_int (fun _ _ => rfl)) (pe_lst (pa_cons pe_str (pa_cons pe_str (pa_cons pe_str pa_nil)))) (by rfl)))) (fun _ _ _ _ _ => (pe_tup (pa_cons (pe_ix (ix_seqK K) (pv 1) pe_int (fun _ _ => rfl)) (pa_cons (pe_ix (ix_seqK K) (pv 1) pe_int (fun _ _ => rfl)) pa_nil))))))), ?_⟩
    have a : At Fm.pure B H B H := At.start (Ok.any e)

    have sq : EV Fm.pure (tVar 0) (L2.start N_law_unary [v]) B (SqV K (DDs K rs)) := by
      rcases hrs with rfl | rfl
      · exact ev_seqL (ed_var rfl hv)
      · exact ev_seqT (ed_var rfl hv)
    have fi : fUn [d] = .list ((rs.filter isOne).map fun r => toD (edge r)) := by
      have e : itemsD d = rs := by rcases hrs with rfl | rfl <;> rfl
      show PyData.list ((edges (itemsD d)).map toD) = _
      rw [e]
      unfold edges
      rw [List.map_map]
      rfl
    refine sv_ret (P := DD K (fUn [d])) a (ed_is (ed_lcD isOne (fun r => toD (edge r)) sq (by omega) (fun _ => rfl) (fun r v B2 hm _ hr2 => ?_) (fun r v B2 hm ho _ hr2 => ?_)) fi.symm) fun v1 B2 H2 e2 a2 h2 => q _ B2 H2 a2.st h2
    · obtain ⟨x, s, p, ps, rfl, _, _, _⟩ := ruleD_is (hval r hm)
      exact et_cmp (inSL (ed_op (ed_var rfl hr2) ed_int (rd_ixT at3_1)) pyStr)
    · obtain ⟨x, s, c, rfl, _, _, _, _, _⟩ := one_is (hval r hm) ho
      exact ed_tup (eds_cons (ed_op (ed_var rfl hr2) ed_int (rd_ixT at3_0)) (eds_cons (ed_op (ed_var rfl hr2) ed_int (rd_ixT at3_2)) eds_nil))
abbrev s_law_back_kind : Stmt := topS 48
abbrev N_law_back_kind : List Str := ["steps", "kinds", "kind", "found", "turn", "pair"]
theorem sc_law_back_kind : FnScope N_law_back_kind ["steps", "kinds"] (defScope s_law_back_kind) := ⟨rfl, rfl, rfl, by decide +kernel, rfl, by decide +kernel, by decide +kernel⟩
theorem ok_law_back_kind (F : Fun K "_law_back_kind" "_law_back_kind" s_law_back_kind f fd) (T : TC K mg) : FnOk P w K mg base CX0 1 f fd ["steps", "kinds"] (spF K preBack fBack) := by
  refine F.ok sc_law_back_kind (fun vs H Q E h => ?_) (fun cdv A outer s H vs Q E hr h => ?_)
  · obtain ⟨B, ds, e, hd, ⟨E, n, rfl, hl, hn⟩, q⟩ := h
    exact hd.len
  · obtain ⟨B, ds, e, hd, ⟨E, n, rfl, hl, hn⟩, q⟩ := h
    obtain ⟨v, v2, rfl, hv, hn2⟩ := arg2 hd
    obtain rfl := dd_int hn2
    have hu64 : (A.deeper (envOfC "_law_back_kind" (defScope s_law_back_kind) s.heap.objs.size f cdv)).units + 64 < cLine := hr.units
    refine ⟨_, (pss_cons (ps_for PassesOwn.never rfl (pi_range1 rfl T.m_range (pa_cons (pv 1) pa_nil)) (pg_name (i := 2) sc_law_back_kind.nd rfl (Or.inr rfl)) (pss_cons (ps_set (i := 3) sc_law_back_kind.nd rfl (Or.inr rfl) (pe_lst pa_nil))
      (pss_cons (ps_for PassesOwn.never rfl (pi_range1 rfl T.m_range (pa_cons (pe_op (op_addK K) (pv 1) pe_int) pa_nil)) (pg_name (i := 4) sc_law_back_kind.nd rfl (Or.inl rfl)) (pss_one (ps_set (i := 3) sc_law_back_kind.nd rfl (Or.inr rfl) (pe_op (op_addK K) (pv 3) (pe_lc (own := [("pair", 5)]) rfl sc_law_back_kind.nd (pi_seqK K (pv 0)) (blkOk_by (own := [("pair", 5)]) (N := N_law_back_kind) (sc := defScope s_law_back_kind) (by decide +kernel)) (fun _ _ _ _ _ => pg_name (i := 5) sc_law_back_kind.nd rfl (Or.inl rfl)) (fun _ _ _ _ _ => (pts_one (PW.pt (pw_and (PW.pt (pw_or (pt_cmpR (op_eqDK K hu64) (pe_ix (ix_seqK K) (pv 5) pe_int (fun _ _ => rfl)) (pv 2) (nomark _)) (pw_or1 (pt_cmpR (op_inK K) (pe_ix (ix_seqK K) (pv 5) pe_int (fun _ _ => rfl)) (pv 3) (by rfl))))) (pw_and1 (pt_cmpR (op_ninK K) (pe_ix (ix_seqK K) (pv 5) pe_int (fun _ _ => rfl)) (pv 3) (by rfl))))))) (fun _ _ _ _ _ => (pe_ix (ix_seqK K) (pv 5) pe_int (fun _ _ => rfl))))))))
      (pss_one (ps_if (pt_cmpR (op_inK K) (pv 2) (pv 3) (by rfl)) (pss_one (ps_ret (pv 2))) pss_nil)))))
      (pss_one (ps_ret pe_non))), ?_⟩
    have a : At Fm.pure B H B H := At.start (Ok.any e)

    have fb : fBack [.list (E.map toD), .int (n : Nat)] = optD (backK E n) := by
      show optD (backK ((E.map toD).map ofD) ((n : Int)).toNat) = _
      rw [ofD_toD]
      rfl
    refine qd_forR (K := K) (n := (n : Nat)) a (eds_cons (ed_var rfl (.int _)) eds_nil) ⟨by omega, by omega⟩ (fun i σ' B' => (∃ o1 o2 o3, σ' = [some v, some (.int (n : Nat)), o1, o2, o3, none]) ∧ ∀ k : Nat, k < i → (Gm.turns E (k : Int) (n + 1)).contains (k : Int) = false) (fun B1 _ => ⟨⟨none, none, none, rfl⟩, fun k hk => absurd hk (Nat.not_lt_zero k)⟩) ?_ ?_
    · rintro Bb i σ' B1 H1 eb hi e1 a1 ⟨⟨o1, o2, o3, rfl⟩, hno⟩
      have hi' : i < n := by omega
      refine qv_asg a1 (ed_lst (K := K) eds_nil) fun vf B2 H2 e2 a2 hf => ?_
      refine qd_forR (K := K) (n := (n : Nat) + 1) a2 (eds_cons (ed_op (ed_var rfl (.int _)) ed_int rd_add) eds_nil) ⟨by omega, by omega⟩ (fun t σ' B' => ∃ o3 vf, σ' = [some v, some (.int (n : Nat)), some (.int (i : Nat)), some vf, o3, none] ∧ Dd K B' vf (.list ((Gm.turns E (i : Nat) t).map .int))) (fun B3 e3 => ⟨o3, vf, rfl, hf.up e3⟩) ?_ ?_
      · rintro Bc t σ' B3 H3 ec ht e3 a3 ⟨o4, vg, rfl, hg⟩
        have ht' : t ≤ 41 := by omega
        have hS : (Gm.turns E (i : Nat) t).length ≤ 4100 := Nat.le_trans (Gm.turns_len E (i : Nat) t) (Nat.le_trans (Nat.mul_le_mul ht' hl) (by decide))
        have eB : Ex B B3 := ((eb.trans e1).trans e2).trans (ec.trans e3)
        refine sv_asg a3 (ed_op (ed_var rfl hg) (ed_lcD (fun d => tq (i : Int) (Gm.turns E (i : Nat) t) (ofD d)) (fun d => .int (ofD d).2) (ev_seqL (ed_var rfl (hv.up eB))) (by rw [List.length_map]; omega) (fun _ => rfl) (fun d u B4 hm e4 hd4 => ?_) (fun d u B4 hm _ e4 hd4 => ?_)) (rd_addL ?_)) fun v4 B4 H4 e4 a4 h4 => ?_
        · obtain ⟨⟨x, y⟩, _, rfl⟩ := List.mem_map.mp hm
          have c1 : ∀ B5, Ex B4 B5 → True := fun _ _ => trivial
          refine et_and (et_or (et_is (et_cmp (ed_op (K := K) (ed_op (ed_var rfl hd4) ed_int (rd_ixT at2_0)) (ed_var rfl (.int (i : Nat))) (rd_eqD rfl rfl))) (eqv_int _ _)) fun _ => et_is (et_cmp (ed_op (K := K) (ed_op (ed_var rfl hd4) ed_int (rd_ixT at2_0)) (ed_var rfl (hg.up e4)) (rd_isin (.inl rfl) rfl (flatI _)))) (inD_int _ _)) fun _ => et_is (et_cmp (ed_op (K := K) (ed_op (ed_var rfl hd4) ed_int (rd_ixT at2_1)) (ed_var rfl (hg.up e4)) (rd_notin (.inl rfl) rfl (flatI _)))) (congrArg Bool.not (inD_int _ _))
        · obtain ⟨⟨x, y⟩, _, rfl⟩ := List.mem_map.mp hm
          exact ed_op (ed_var rfl hd4) ed_int (rd_ixT at2_1)
        · rw [lc_E E (tq (i : Int) (Gm.turns E (i : Nat) t)), List.length_map, List.length_map, List.length_map]
          have := List.length_filter_le (tq (i : Int) (Gm.turns E (i : Nat) t)) E
          omega
        · rw [lc_E E (tq (i : Int) (Gm.turns E (i : Nat) t)), ← List.map_append] at h4
          exact ⟨B4, e3.trans e4, a4, _, v4, rfl, h4⟩
      · rintro σ' B3 H3 e3 a3 ⟨o4, vg, rfl, hg⟩
        have hg' : Dd K B3 vg (.list ((Gm.turns E (i : Nat) (n + 1)).map .int)) := hg
        refine sv_if (b := (Gm.turns E (i : Nat) (n + 1)).contains (i : Nat)) a3 (et_is (et_cmp (ed_op (ed_var rfl (.int (i : Nat))) (ed_var rfl hg') (rd_isin (.inl rfl) rfl (flatI _)))) (inD_int _ _)) (fun hb B4 H4 e4 a4 => ?_) (fun hb B4 H4 e4 a4 => ?_)
        · refine sv_ret (P := DD K (.int (i : Nat))) a4 (ed_var rfl (.int _)) fun v5 B5 H5 e5 a5 h5 => q _ B5 H5 a5.st ?_
          rw [fb, backK_some hi' hb hno]
          exact h5
        · refine ⟨B4, ((e1.trans e2).trans e3).trans e4, a4, ⟨_, _, _, rfl⟩, fun k hk => ?_⟩
          rcases Nat.lt_succ_iff_lt_or_eq.mp hk with h | rfl
          · exact hno k h
          · exact hb
    · rintro σ' B1 H1 e1 a1 ⟨⟨o1, o2, o3, rfl⟩, hno⟩
      refine sv_ret (P := DD K .none) a1 ed_non fun v5 B5 H5 e5 a5 h5 => q _ B5 H5 a5.st ?_
      rw [fb, backK_none fun k hk => hno k (by show k < ((n : Nat) : Int).toNat; omega)]
      exact h5
def fDue : List PyData → PyData
  | [k, r] => dueD k r
  | _ => .none
theorem due_num {k r : PyData} (h : (!isI k || (decide ((match k with | .int i => i | _ => 0) < 1) || decide (40 < (match k with | .int i => i | _ => 0)))) = true) : dueD k r = .tuple [.str "number", k] := by
  cases k with
  | int n =>
    have h' : n < 1 ∨ 40 < n := by simpa [isI] using h
    unfold dueD
    simp only
    rw [if_neg (by omega)]
  | _ => rfl
theorem due_rules {n : Int} {r : PyData} (h0 : 1 ≤ n ∧ n ≤ 40) (h : rulesD r n = false) : dueD (.int n) r = .tuple [.str "rules", r] := by
  unfold dueD
  simp only
  rw [if_pos h0, h, if_neg (by decide)]
theorem due_back {n : Int} {rs : List PyData} (h0 : 1 ≤ n ∧ n ≤ 40) (h : rulesD (.tuple rs) n = true) : dueD (.int n) (.tuple rs) = (match backK (edges rs) n.toNat with | none => .tuple [.str "kept", .int n, .tuple rs] | some b => .tuple [.str "endless", .int b]) := by
  unfold dueD
  simp only
  rw [if_pos h0, if_pos h]
  first
    | done
    | cases backK (edges rs) n.toNat <;> rfl
theorem rules_all {rs : List PyData} {n : Int} (h : rulesD (.tuple rs) n = true) : 1 ≤ rs.length ∧ rs.length ≤ 90 ∧ ∀ r ∈ rs, ruleD r n = true := by
  rw [rulesD_tup, Bool.and_eq_true, Bool.and_eq_true, decide_eq_true_eq, decide_eq_true_eq, List.all_eq_true] at h
  exact ⟨by omega, by omega, h.2⟩
end
end K12

namespace K12
open PySem PySem.Spec PyProof.Rows L2 Evl Ex Dx
open PySem.PyData (strOk)

section
variable {P : Program} {w : World} {K : PySem.W.Frag} {mg : Str → Option Value} {base : Heap} {f : Addr} {fd : FuncData}

/-! ### what is new in a heap, alone -/
def rst (B H H' : Hp) : Hp := fun a => if ((H a).isSome && (B a).isNone) = true then none else H' a
theorem rst_old {B H H' : Hp} {a : Addr} {o : HO} (e : Ex B H) (e' : Ex H H') (h : B a = some o) : rst B H H' a = some o := by
  unfold rst
  rw [h, if_neg (by simp)]
  exact e' _ _ (e _ _ h)
theorem rst_new {B H H' : Hp} {a : Addr} (h : H a = none) : rst B H H' a = H' a := by
  unfold rst
  rw [h, if_neg (by simp)]
theorem rst_sub {B H H' : Hp} {a : Addr} {o : HO} (h : rst B H H' a = some o) : H' a = some o := by
  unfold rst at h
  split at h
  · cases h
  · exact h
theorem rst_step {B H H' : Hp} (e : Ex B H) (e' : Ex H H') : Step (fun _ => False) B H (rst B H H') H' :=
  ⟨fun a o h => rst_old e e' h, fun a o h => rst_sub h, fun a o _ h => e' _ _ h, fun a h n => by
    unfold rst
    rw [h, if_pos]
    cases hh : H a with
    | none => exact absurd hh n.ne
    | some o => rfl, (fun a n => by
    cases hh : H a with
    | none => exact absurd hh n
    | some o =>
      rw [e' _ _ hh]
      exact fun z => nomatch z), fun a ⟨o, h, n⟩ => ⟨o, e' _ _ h, n⟩⟩
theorem ddAll_int {H : Hp} : ∀ S : List Int, DdAll K H (S.map V.int) (S.map .int)
  | [] => .nil
  | i :: S => .cons (.int i) (ddAll_int S)
theorem dd_ints {H : Hp} {a : Addr} {S : List Int} (h : H a = some (.lst (S.map V.int))) (hl : S.length ≤ 16777216) : Dd K H (.ref a) (.list (S.map .int)) := .lst h (by rw [List.length_map, sizeLine_eq]; exact hl) (ddAll_int S)
theorem ints_dd {H : Hp} : ∀ {S : List Int} {vs : List V}, DdAll K H vs (S.map .int) → vs = S.map V.int
  | [], _, h => by cases h; rfl
  | i :: S, _, h => by
    cases h with
    | cons a t =>
      rw [dd_int a, ints_dd t]
      rfl
theorem ddAll_of {H : Hp} : ∀ {vs : List V} {ds : List PyData}, vs.length = ds.length → (∀ (i : Nat) (v : V) (d : PyData), vs[i]? = some v → ds[i]? = some d → Dd K H v d) → DdAll K H vs ds
  | [], [], _, _ => .nil
  | [], _ :: _, h, _ => by simp at h
  | _ :: _, [], h, _ => by simp at h
  | v :: vs, d :: ds, h, g => .cons (g 0 v d rfl rfl) (ddAll_of (by simpa using h) fun i v d h1 h2 => g (i + 1) v d (by simpa using h1) (by simpa using h2))
def adj (E : List (Int × Int)) (k : Int) : List Int := (E.filter fun p => p.1 == k).map (·.2)
theorem mem_adj {E : List (Int × Int)} {k x : Int} : x ∈ adj E k ↔ (k, x) ∈ E := by
  unfold adj
  rw [List.mem_map]
  constructor
  · rintro ⟨⟨a, b⟩, h, rfl⟩
    obtain ⟨h1, h2⟩ := List.mem_filter.mp h
    rw [beq_iff_eq] at h2
    exact h2 ▸ h1
  · intro h
    exact ⟨(k, x), List.mem_filter.mpr ⟨h, beq_self_eq_true k⟩, rfl⟩
theorem adj_len (E : List (Int × Int)) (k : Int) : (adj E k).length ≤ E.length := by
  unfold adj
  rw [List.length_map]
  exact List.length_filter_le _ _
theorem adj_snoc (E : List (Int × Int)) (a c k : Int) : adj (E ++ [(a, c)]) k = adj E k ++ (if a = k then [c] else []) := by
  unfold adj
  rw [List.filter_append, List.map_append]
  congr 1
  by_cases h : a = k
  · rw [if_pos h, List.filter_cons, if_pos (beq_iff_eq.mpr h)]
    rfl
  · rw [if_neg h, List.filter_cons, if_neg (fun z => h (beq_iff_eq.mp z))]
    rfl
def adjD (E : List (Int × Int)) (n : Nat) : PyData := .list ((List.range n).map fun k => .list ((adj E (k : Nat)).map .int))
/-! ### steps_of -/
structure Rep (H0 H : Hp) (Dl : Addr) (refs : List Addr) (c : Nat → List Int) : Prop where
  ex : Ex H0 H
  fD : H0 Dl = none
  hD : H Dl = some (.lst (refs.map V.ref))
  nd : refs.Nodup
  it : ∀ i r, refs[i]? = some r → H0 r = none ∧ r ≠ Dl ∧ H r = some (.lst ((c i).map V.int))
theorem Rep.mono {H0 H H' : Hp} {Dl : Addr} {refs : List Addr} {c : Nat → List Int} (R : Rep H0 H Dl refs c) (e : Ex H H') : Rep H0 H' Dl refs c := ⟨R.ex.trans e, R.fD, e _ _ R.hD, R.nd, fun i r h => ⟨(R.it i r h).1, (R.it i r h).2.1, e _ _ (R.it i r h).2.2⟩⟩
theorem Rep.data {B H0 H : Hp} {Dl : Addr} {refs : List Addr} {c : Nat → List Int} {n : Nat} (R : Rep H0 H Dl refs c) (e : Ex B H0) (hn : refs.length = n) (h1 : n ≤ 16777216) (h2 : ∀ i, i < n → (c i).length ≤ 16777216) : Dd K (rst B H0 H) (.ref Dl) (.list ((List.range n).map fun k => .list ((c k).map .int))) := by
  refine .lst ((rst_new R.fD).trans R.hD) (by rw [List.length_map, sizeLine_eq, hn]; exact h1) (ddAll_of (by rw [List.length_map, List.length_map, List.length_range, hn]) fun i v d hv hd => ?_)
  obtain ⟨r, hr, rfl⟩ : ∃ r, refs[i]? = some r ∧ V.ref r = v := by
    rw [List.getElem?_map] at hv
    cases hh : refs[i]? with
    | none => rw [hh] at hv; cases hv
    | some r => rw [hh] at hv; exact ⟨r, rfl, by simpa using hv⟩
  have hi : i < n := by
    rw [← hn]
    exact (List.getElem?_eq_some_iff.mp hr).1
  obtain ⟨f1, _, g1⟩ := R.it i r hr
  rw [List.getElem?_map, List.getElem?_range hi] at hd
  obtain rfl : PyData.list ((c i).map .int) = d := by simpa using hd
  exact dd_ints ((rst_new f1).trans g1) (h2 i hi)
theorem edges_snoc1 {rs : List PyData} {i : Nat} {r : PyData} (h : rs[i]? = some r) (ho : isOne r = true) : edges (rs.take (i + 1)) = edges (rs.take i) ++ [edge r] := by
  rw [take_snoc h]
  unfold edges
  rw [List.filter_append, List.map_append, List.filter_cons, if_pos ho]
  rfl
theorem edges_snoc0 {rs : List PyData} {i : Nat} {r : PyData} (h : rs[i]? = some r) (ho : isOne r = false) : edges (rs.take (i + 1)) = edges (rs.take i) := by
  rw [take_snoc h]
  unfold edges
  rw [List.filter_append, List.filter_cons, if_neg (by rw [ho]; decide), List.filter_nil, List.append_nil]
def fSteps : List PyData → PyData
  | [.int n, .tuple rs] => adjD (edges rs) n.toNat
  | _ => .none
def preS (ds : List PyData) : Prop := ∃ (rs : List PyData) (n : Nat), ds = [.int (n : Nat), .tuple rs] ∧ rs.length ≤ 100 ∧ n ≤ 40 ∧ ∀ r ∈ rs, ruleD r n = true
theorem okH {H : Hp} : Ok Fm.pure H H := Ok.any (Ex.refl H)

abbrev s_steps_of : Stmt := topS 24
abbrev N_steps_of : List Str := ["kinds", "rules", "steps", "rule", "_"]
theorem sc_steps_of : FnScope N_steps_of ["kinds", "rules"] (defScope s_steps_of) := ⟨rfl, rfl, rfl, by decide +kernel, rfl, by decide +kernel, by decide +kernel⟩
theorem ok_steps_of (F : Fun K "steps_of" "steps_of" s_steps_of f fd) (T : TC K mg) : FnOk P w K mg base CX0 1 f fd ["kinds", "rules"] (spF K preS fSteps) := by
  refine F.ok sc_steps_of (fun vs H Q E h => ?_) (fun cdv A outer s H vs Q E hr h => ?_)
  · obtain ⟨B, ds, e, hd, ⟨rs, n, rfl, _⟩, q⟩ := h
    exact hd.len
  · obtain ⟨B, ds, e, hd, ⟨rs, n, rfl, hl, hn, hval⟩, q⟩ := h
    obtain ⟨v, v2, rfl, hv, hv2⟩ := arg2 hd
    obtain rfl := dd_int hv
    obtain ⟨t, us, rfl, ht, _, htd⟩ := dd_tup hv2
    obtain ⟨WO, gO, hO⟩ := T.w_ONE.ex
    refine ⟨_, (pss_cons (ps_setLc (i := 2) (own := [("_", 4)]) rfl sc_steps_of.nd rfl rfl (sw_true rfl rfl rfl (by decide +kernel)) (pi_range1 rfl T.m_range (pa_cons (pv 0) pa_nil)) (blkOk_by (own := [("_", 4)]) (N := N_steps_of) (sc := defScope s_steps_of) (by decide +kernel)) (fun _ _ _ _ _ => pg_name (i := 4) sc_steps_of.nd rfl (Or.inl rfl)) (fun _ _ _ _ _ => pts_nil) (fun _ _ _ _ _ => (pe_lst pa_nil)))
      (pss_cons (ps_for PassesOwn.never rfl (pi_seqK K (pv 1)) (pg_name (i := 3) sc_steps_of.nd rfl (Or.inl rfl)) (pss_one (ps_if (pt_cmpR (op_inK K) (pe_ix (ix_seqK K) (pv 3) pe_int (fun _ _ => rfl)) (pe_glob (v := .ref WO) rfl gO rfl) (by rfl)) (pss_one (ps_expr (pe_bm PySem.F.plainAttrs_list PySem.F.slot_list_append PySem.F.type_list_append mt_append (pe_ix (ix_seqK K) (pv 2) (pe_ix (ix_seqK K) (pv 3) pe_int (fun _ _ => rfl)) (fun _ _ => rfl)) (pa_cons (pe_ix (ix_seqK K) (pv 3) pe_int (fun _ _ => rfl)) pa_nil)))) pss_nil)))
      (pss_one (ps_ret (pv 2))))), ?_⟩
    refine ⟨.int (n : Nat), rfl, (n : Nat), rfl, by omega, by omega, fun Dl hDl => lc_range (lo := 0) (n := n) (fun i H' => ∃ refs : List Addr, refs.length = i ∧ Rep H H' Dl refs fun _ => []) ⟨[], rfl, Ex.new hDl, hDl, upd_same, List.nodup_nil, fun i r h => by simp at h⟩ (fun i H' hi ⟨refs, hlen, R⟩ => ?_) (fun H1 ⟨refs, hlen, R⟩ => ?_)⟩
    · refine ⟨rfl, ?_⟩
      show _ ∧ _
      refine ⟨Nat.zero_le _, fun a ha => ?_⟩
      have hal : a ≠ Dl := fun z => by rw [z, R.hD] at ha; cases ha
      have h0a : H a = none := fresh_back R.ex ha
      refine ⟨refs.map V.ref, by rw [upd_ne (Ne.symm hal)]; exact R.hD, by rw [List.length_map, sizeLine_eq, hlen]; omega, refs ++ [a], by rw [List.length_append, hlen]; rfl, ?_⟩
      refine ⟨fun x o h => ?_, R.fD, by rw [upd_same, List.map_append]; rfl, ?_, fun j r hj => ?_⟩
      · have n1 : x ≠ a := ne_of_none h h0a
        have n2 : x ≠ Dl := ne_of_none h R.fD
        rw [upd_ne n2, upd_ne n1]
        exact R.ex _ _ h
      · rw [List.nodup_append]
        refine ⟨R.nd, by simp, fun x hx y hy => ?_⟩
        rw [List.mem_singleton] at hy
        subst hy
        obtain ⟨j, hj⟩ := List.getElem?_of_mem hx
        intro z
        subst z
        rw [(R.it j x hj).2.2] at ha
        cases ha
      · by_cases hlt : j < refs.length
        · rw [List.getElem?_append_left hlt] at hj
          obtain ⟨r1, r2, r3⟩ := R.it j r hj
          refine ⟨r1, r2, ?_⟩
          have n1 : r ≠ a := fun z => by rw [z, ha] at r3; cases r3
          rw [upd_ne r2, upd_ne n1]
          exact r3
        · rw [List.getElem?_append_right (by omega)] at hj
          have hj0 : j - refs.length = 0 := by
            have := (List.getElem?_eq_some_iff.mp hj).1
            simp at this
            omega
          rw [hj0] at hj
          obtain rfl : a = r := by simpa using hj
          exact ⟨h0a, hal, by rw [upd_ne hal, upd_same]; rfl⟩
    · refine ⟨.ref t, rfl, t, rfl, .inr ⟨⟨us, ex_t (e.trans R.ex) ht⟩, for_tup (K := K) (xs := us) (fun i σ' H' => (∃ o, σ' = [some (.int (n : Nat)), some (.ref t), some (.ref Dl), o, none]) ∧ Rep H H' Dl refs fun k => adj (edges (rs.take i)) (k : Nat)) ⟨⟨none, rfl⟩, R⟩ (fun i σ' H' _ ⟨_, R'⟩ => ex_t (e.trans R'.ex) ht) (fun i x σ' H' hx ⟨⟨o, ho⟩, R'⟩ => ?_) (fun σ' H' ⟨⟨o, ho⟩, R'⟩ => ?_)⟩⟩
      · subst ho
        obtain ⟨r, hr1, hr2⟩ := htd.getv hx
        have hrd : Dd K H' x r := hr2.up (e.trans R'.ex)
        have hval1 := hval r (List.mem_of_getElem? hr1)
        obtain ⟨a, sh, p, ps, rfl, ha0, ha1, htl⟩ := ruleD_is hval1
        have tst : ETt Fm.pure (tTest (tOp (rIn K false) (tOp (rIx K) (tVar 3) (tC (.int 1))) (tC (.ref WO)))) [some (.int (n : Nat)), some (.ref t), some (.ref Dl), some x, none] H' (inS sh OSH) := et_cmp (inST (ed_op (ed_var rfl hrd) ed_int (rd_ixT at3_1)) (ed_v (hO H')))
        refine tst H' (Ex.refl H') H' okH _ fun B2 H2 s2 j2 => ?_
        have R2 := R'.mono s2.ex
        by_cases hone : inS sh OSH = true
        · rw [hone]
          rw [if_pos rfl]
          obtain ⟨rfl, c, rfl, c0, c1⟩ := tailD_one htl hone
          have hrd2 : Dd K H2 x (.tuple [.int a, .str sh, .int c]) := hrd.up s2.ex
          refine ⟨.ref Dl, rfl, ?_⟩
          have ia : ED Fm.pure K (tOp (rIx K) (tVar 3) (tC (.int 0))) [some (.int (n : Nat)), some (.ref t), some (.ref Dl), some x, none] H2 (.int a) := ed_op (ed_var rfl hrd2) ed_int (rd_ixT at3_0)
          refine ia H2 (Ex.refl H2) H2 okH _ fun va B3 H3 s3 j3 ga => ?_
          obtain rfl := dd_int ga
          have R3 := R2.mono s3.ex
          have hlt : a.toNat < refs.length := by rw [hlen]; omega
          obtain ⟨r, hr⟩ : ∃ r, refs[a.toNat]? = some r := ⟨_, List.getElem?_eq_getElem hlt⟩
          have en : ((a.toNat : Nat) : Int) = a := by omega
          refine .inl ⟨Dl, refs.map V.ref, a, .ref r, rfl, rfl, sq_of R3.hD, at_of en.symm (by rw [List.getElem?_map, hr]; rfl), ?_⟩
          obtain ⟨r1, r2, r3⟩ := R3.it _ r hr
          refine ⟨.inl ⟨rfl, _, sq_of r3⟩, ?_⟩
          have ic : ED Fm.pure K (tOp (rIx K) (tVar 3) (tC (.int 2))) [some (.int (n : Nat)), some (.ref t), some (.ref Dl), some x, none] H3 (.int c) := ed_op (ed_var rfl (hrd2.up s3.ex)) ed_int (rd_ixT at3_2)
          refine ic H3 (Ex.refl H3) H3 okH _ fun vc B4 H4 s4 j4 gc => ?_
          obtain rfl := dd_int gc
          have R4 := R3.mono s4.ex
          obtain ⟨q1, q2, q3⟩ := R4.it _ r hr
          refine ⟨r, _, .int c, rfl, rfl, q3, ?_, ⟨_, rfl⟩, ?_⟩
          · have := adj_len (edges (rs.take i)) ((a.toNat : Nat) : Int)
            have h2 := edges_len (rs.take i)
            have h3 : (rs.take i).length ≤ rs.length := by rw [List.length_take]; exact Nat.min_le_right _ _
            rw [List.length_map, sizeLine_eq]
            omega
          · refine ⟨fun y o h => ?_, R4.fD, by rw [upd_ne (Ne.symm q2)]; exact R4.hD, R4.nd, fun j y hy => ?_⟩
            · rw [upd_ne (ne_of_none h q1)]
              exact R4.ex _ _ h
            · obtain ⟨y1, y2, y3⟩ := R4.it j y hy
              refine ⟨y1, y2, ?_⟩
              rw [edges_snoc1 hr1 hone]
              show upd H4 r _ y = some (.lst ((adj (edges (rs.take i) ++ [(a, c)]) ((j : Nat) : Int)).map V.int))
              rw [adj_snoc]
              by_cases hj : j = a.toNat
              · subst hj
                rw [hr] at hy
                cases hy
                rw [upd_same, if_pos en.symm, List.map_append]
                rfl
              · have nyr : y ≠ r := fun z => by
                  subst z
                  exact hj ((List.getElem?_inj (List.getElem?_eq_some_iff.mp hy).1 R4.nd).mp (hy.trans hr.symm))
                rw [upd_ne nyr, if_neg (by omega), List.append_nil]
                exact y3
        · have hone' : inS sh OSH = false := by simpa using hone
          rw [hone']
          rw [if_neg (by decide)]
          refine ⟨⟨some x, rfl⟩, ?_⟩
          rw [edges_snoc0 hr1 hone']
          exact R2
      · subst ho
        refine ⟨.ref Dl, rfl, ?_⟩
        have lr : us.length = rs.length := htd.len
        rw [lr, List.take_length] at R'
        refine q (.ref Dl) (rst B H H') H' (rst_step e R'.ex) ?_
        show Dd K _ _ (adjD (edges rs) ((n : Int)).toNat)
        refine R'.data e hlen (by omega) fun i _ => ?_
        have := adj_len (edges rs) ((i : Nat) : Int)
        have h2 := edges_len rs
        omega
end
end K12

namespace K12
open PySem PySem.Spec PyProof.Rows L2 Evl Ex Dx
open PySem.PyData (strOk)

section
variable {P : Program} {w : World} {K : PySem.W.Frag} {mg : Str → Option Value} {base : Heap} {f : Addr} {fd : FuncData}

/-! ### kinds_behind -/
structure KS (H0 H : Hp) (fa wa : Addr) (S Wt : List Int) : Prop where
  ex : Ex H0 H
  f0 : H0 fa = none
  w0 : H0 wa = none
  ne : fa ≠ wa
  hf : H fa = some (.lst (S.map V.int))
  hw : H wa = some (.lst (Wt.map V.int))
theorem KS.mono {H0 H H' : Hp} {fa wa : Addr} {S Wt : List Int} (R : KS H0 H fa wa S Wt) (e : Ex H H') : KS H0 H' fa wa S Wt := ⟨R.ex.trans e, R.f0, R.w0, R.ne, e _ _ R.hf, e _ _ R.hw⟩
theorem KS.setF {H0 H : Hp} {fa wa : Addr} {S Wt S' : List Int} (R : KS H0 H fa wa S Wt) : KS H0 (upd H fa (.lst (S'.map V.int))) fa wa S' Wt :=
  ⟨fun x o h => by rw [upd_ne (ne_of_none h R.f0)]; exact R.ex _ _ h, R.f0, R.w0, R.ne, upd_same, by rw [upd_ne (Ne.symm R.ne)]; exact R.hw⟩
theorem KS.setW {H0 H : Hp} {fa wa : Addr} {S Wt W' : List Int} (R : KS H0 H fa wa S Wt) : KS H0 (upd H wa (.lst (W'.map V.int))) fa wa S W' :=
  ⟨fun x o h => by rw [upd_ne (ne_of_none h R.w0)]; exact R.ex _ _ h, R.f0, R.w0, R.ne, by rw [upd_ne R.ne]; exact R.hf, upd_same⟩
structure MI (E : List (Int × Int)) (n : Nat) (k : Int) (S Wt : List Int) : Prop where
  sound : ∀ x ∈ S, Gm.Rch E k x
  nd : S.Nodup
  wt : ∀ x ∈ Wt, x = k ∨ x ∈ S
  cl : ∀ a b, (a, b) ∈ E → (a = k ∨ a ∈ S) → b ∈ S ∨ a ∈ Wt
/-- within the turn for at, rest: the steps from it that are still to look at -/
structure MJ (E : List (Int × Int)) (n : Nat) (k at' : Int) (rest S Wt : List Int) : Prop where
  sound : ∀ x ∈ S, Gm.Rch E k x
  nd : S.Nodup
  wt : ∀ x ∈ Wt, x = k ∨ x ∈ S
  at_ : at' = k ∨ at' ∈ S
  cl : ∀ a b, (a, b) ∈ E → (a = k ∨ a ∈ S) → b ∈ S ∨ a ∈ Wt ∨ (a = at' ∧ b ∈ rest)
section
variable {E : List (Int × Int)} {n : Nat} {k x at' : Int} {S Wt rest : List Int}
theorem MI.len (hE : ∀ a b, (a, b) ∈ E → 0 ≤ b ∧ b < (n : Int)) (h : MI E n k S Wt) : S.length ≤ n := Gm.pig n S h.nd fun y hy => by
  have r := h.sound y hy
  cases r with
  | one e => exact hE _ _ e
  | more _ e => exact hE _ _ e
theorem MJ.len (hE : ∀ a b, (a, b) ∈ E → 0 ≤ b ∧ b < (n : Int)) (h : MJ E n k at' rest S Wt) : S.length ≤ n := Gm.pig n S h.nd fun y hy => by
  have r := h.sound y hy
  cases r with
  | one e => exact hE _ _ e
  | more _ e => exact hE _ _ e
theorem MI.start : MI E n k [] [k] := ⟨fun _ h => (nomatch h), List.nodup_nil, fun x hx => .inl (List.mem_singleton.mp hx), fun a b _ h => .inr (by
  rcases h with rfl | h
  · exact List.mem_singleton.mpr rfl
  · cases h)⟩
theorem MI.pop (h : MI E n k S (Wt ++ [at'])) : MJ E n k at' (adj E at') S Wt := ⟨h.sound, h.nd, fun x hx => h.wt x (List.mem_append_left _ hx), h.wt at' (List.mem_append_right _ (List.mem_singleton.mpr rfl)), fun a b hE ha => by
  rcases h.cl a b hE ha with h1 | h1
  · exact .inl h1
  · rcases List.mem_append.mp h1 with h2 | h2
    · exact .inr (.inl h2)
    · obtain rfl := List.mem_singleton.mp h2
      exact .inr (.inr ⟨rfl, mem_adj.mpr hE⟩)⟩
theorem MJ.skip (h : MJ E n k at' (x :: rest) S Wt) (hx : x ∈ S) : MJ E n k at' rest S Wt := ⟨h.sound, h.nd, h.wt, h.at_, fun a b hE ha => by
  rcases h.cl a b hE ha with h1 | h1 | ⟨h1, h2⟩
  · exact .inl h1
  · exact .inr (.inl h1)
  · rcases List.mem_cons.mp h2 with rfl | h3
    · exact .inl hx
    · exact .inr (.inr ⟨h1, h3⟩)⟩
theorem MJ.add (h : MJ E n k at' (x :: rest) S Wt) (hE : (at', x) ∈ E) (hx : x ∉ S) : MJ E n k at' rest (S ++ [x]) (Wt ++ [x]) := by
  have hr : Gm.Rch E k x := by
    rcases h.at_ with rfl | ha
    · exact .one hE
    · exact .more (h.sound _ ha) hE
  refine ⟨fun y hy => ?_, ?_, fun y hy => ?_, ?_, fun a b hab ha => ?_⟩
  · rcases List.mem_append.mp hy with h1 | h1
    · exact h.sound y h1
    · rw [List.mem_singleton.mp h1]
      exact hr
  · rw [List.nodup_append]
    refine ⟨h.nd, by simp, fun a ha b hb z => ?_⟩
    rw [List.mem_singleton.mp hb] at z
    exact hx (z ▸ ha)
  · rcases List.mem_append.mp hy with h1 | h1
    · rcases h.wt y h1 with h2 | h2
      · exact .inl h2
      · exact .inr (List.mem_append_left _ h2)
    · exact .inr (List.mem_append_right _ h1)
  · rcases h.at_ with h1 | h1
    · exact .inl h1
    · exact .inr (List.mem_append_left _ h1)
  · have old : (a = k ∨ a ∈ S) → b ∈ S ++ [x] ∨ a ∈ Wt ++ [x] ∨ (a = at' ∧ b ∈ rest) := fun ha' => by
      rcases h.cl a b hab ha' with h1 | h1 | ⟨h1, h2⟩
      · exact .inl (List.mem_append_left _ h1)
      · exact .inr (.inl (List.mem_append_left _ h1))
      · rcases List.mem_cons.mp h2 with rfl | h3
        · exact .inl (List.mem_append_right _ (List.mem_singleton.mpr rfl))
        · exact .inr (.inr ⟨h1, h3⟩)
    rcases ha with ha | ha
    · exact old (.inl ha)
    · rcases List.mem_append.mp ha with h1 | h1
      · exact old (.inr h1)
      · exact .inr (.inl (List.mem_append_right _ h1))
theorem MJ.done (h : MJ E n k at' [] S Wt) : MI E n k S Wt := ⟨h.sound, h.nd, h.wt, fun a b hE ha => by
  rcases h.cl a b hE ha with h1 | h1 | ⟨_, h2⟩
  · exact .inl h1
  · exact .inr h1
  · cases h2⟩
theorem MI.fin (h : MI E n k S []) (y : Int) : y ∈ S ↔ Gm.Rch E k y := ⟨h.sound y, fun r => Gm.closed_rch (fun a b hE ha => by
  rcases h.cl a b hE ha with h1 | h1
  · exact h1
  · cases h1) r⟩
end
def spKB (K : PySem.W.Frag) : Sp := fun vs H Q _ => ∃ (B : Hp) (E : List (Int × Int)) (n k : Nat) (v0 : V), Ex B H ∧ vs = [v0, .int (k : Nat)] ∧ Dd K B v0 (adjD E n) ∧ (∀ a b, (a, b) ∈ E → 0 ≤ b ∧ b < (n : Int)) ∧ k < n ∧ n ≤ 40 ∧ E.length ≤ 100 ∧
  ∀ v B' H' (S : List Int), Step (fun _ => False) B H B' H' → Dd K B' v (.list (S.map .int)) → (∀ x, x ∈ S ↔ Gm.Rch E (k : Nat) x) → Q v H'
theorem snoc_of {α : Type} {l : List α} (h : l ≠ []) : ∃ l' x, l = l' ++ [x] := ⟨l.dropLast, l.getLast h, (List.dropLast_concat_getLast h).symm⟩

abbrev s_kinds_behind : Stmt := topS 14
abbrev N_kinds_behind : List Str := ["steps", "kind", "found", "waiting", "at", "one"]
theorem sc_kinds_behind : FnScope N_kinds_behind ["steps", "kind"] (defScope s_kinds_behind) := ⟨rfl, rfl, rfl, by decide +kernel, rfl, by decide +kernel, by decide +kernel⟩
theorem ok_kinds_behind (F : Fun K "kinds_behind" "kinds_behind" s_kinds_behind f fd) (T : TC K mg) : FnOk P w K mg base CX0 1 f fd ["steps", "kind"] (spKB K) := by
  refine F.ok sc_kinds_behind (fun vs H Q E h => ?_) (fun cdv A outer s H vs Q E hr h => ?_)
  · obtain ⟨B, E, n, k, v0, e, rfl, _⟩ := h
    rfl
  · obtain ⟨B, E, n, k, v0, e, rfl, hv, hE, hk, hn, hlen, q⟩ := h
    obtain ⟨a0, xs0, rfl, h0, l0, d0⟩ := dd_lst hv
    refine ⟨_, (pss_cons (ps_set (i := 2) sc_kinds_behind.nd rfl (Or.inl rfl) (pe_lst pa_nil))
      (pss_cons (ps_set (i := 3) sc_kinds_behind.nd rfl (Or.inl rfl) (pe_lst (pa_cons (pv 1) pa_nil)))
      (pss_cons (ps_while PassesOwn.never (pt_tru K (pv 3)) (pss_cons (ps_set (i := 4) sc_kinds_behind.nd rfl (Or.inl rfl) (pe_bm0 PySem.F.plainAttrs_list PySem.F.slot_list_pop PySem.F.type_list_pop mt_pop (pv 3)))
      (pss_one (ps_for PassesOwn.never rfl (pi_seqK K (pe_ix (ix_seqK K) (pv 0) (pv 4) (fun _ _ => rfl))) (pg_name (i := 5) sc_kinds_behind.nd rfl (Or.inl rfl)) (pss_one (ps_if (pt_cmpR (op_ninK K) (pv 5) (pv 2) (by rfl)) (pss_cons (ps_expr (pe_bm PySem.F.plainAttrs_list PySem.F.slot_list_append PySem.F.type_list_append mt_append (pv 2) (pa_cons (pv 5) pa_nil)))
      (pss_one (ps_expr (pe_bm PySem.F.plainAttrs_list PySem.F.slot_list_append PySem.F.type_list_append mt_append (pv 3) (pa_cons (pv 5) pa_nil))))) pss_nil))))))
      (pss_one (ps_ret (pv 2)))))), ?_⟩
    refine ⟨Nat.zero_le _, fun fa hfa => ?_⟩
    refine ⟨.int (k : Nat), rfl, by show 1 ≤ sizeLine; decide, fun wa hwa => ?_⟩
    have nfw : fa ≠ wa := fun z => by rw [← z, upd_same] at hwa; cases hwa
    have w0 : H wa = none := by rw [upd_ne (Ne.symm nfw)] at hwa; exact hwa
    have K0 : KS H (upd (upd H fa (.lst [])) wa (.lst [.int (k : Nat)])) fa wa [] [(k : Int)] := ⟨fun x o h => by rw [upd_ne (ne_of_none h w0), upd_ne (ne_of_none h hfa)]; exact h, hfa, w0, nfw, by rw [upd_ne nfw, upd_same]; rfl, upd_same⟩
    refine ⟨fun m σ' H' => ∃ o1 o2 S Wt, σ' = [some (.ref a0), some (.int (k : Nat)), some (.ref fa), some (.ref wa), o1, o2] ∧ KS H H' fa wa S Wt ∧ MI E n (k : Nat) S Wt ∧ m = 2 * (n - S.length) + Wt.length ∧ m ≤ 100, ⟨_, none, none, [], [(k : Int)], rfl, K0, MI.start, rfl, by show 2 * (n - 0) + 1 ≤ 100; omega⟩, ?_⟩
    rintro m σ' H' ⟨o1, o2, S, Wt, rfl, R, M, rfl, hm0⟩
    have hSl := M.len hE
    have hWd : ∀ H2, Ex H' H2 → True := fun _ _ => trivial
    have tw : ETt Fm.pure (fun σ H Q => tVar 3 σ H fun x H' => ∃ k, TruV K x H' k ∧ Q k H') [some (.ref a0), some (.int (k : Nat)), some (.ref fa), some (.ref wa), o1, o2] H' (!Wt.isEmpty) := by
      intro B1 e1 H1 j1 Q1 q1
      refine ⟨.ref wa, rfl, !Wt.isEmpty, .inl ⟨Wt.map V.int, sq_of (j1.e _ _ (e1 _ _ R.hw)), ?_⟩, q1 B1 H1 (Step.refl j1.e) j1⟩
      cases Wt <;> rfl
    refine tw H' (Ex.refl H') H' okH _ fun B2 H2 s2 j2 => ?_
    have R2 := R.mono s2.ex
    by_cases hW : Wt = []
    · subst hW
      rw [show (!([] : List Int).isEmpty) = false from rfl, if_neg (by decide)]
      refine ⟨.ref fa, rfl, ?_⟩
      refine q (.ref fa) (rst B H H2) H2 S (rst_step e R2.ex) (dd_ints ((rst_new R2.f0).trans R2.hf) (by omega)) M.fin
    · obtain ⟨W', at', rfl⟩ := snoc_of hW
      have hb : (!(W' ++ [at']).isEmpty) = true := by
        cases W' <;> rfl
      rw [hb, if_pos rfl]
      refine ⟨_, fun σ2 H3 q => q, ?_⟩
      refine ⟨.ref wa, rfl, .inl ⟨rfl, _, sq_of R2.hw⟩, ?_⟩
      refine ⟨wa, _, .int at', rfl, rfl, R2.hw, by rw [List.map_append, List.length_append]; simp, ?_⟩
      have R3 : KS H (upd H2 wa (.lst ((W'.map V.int)))) fa wa S W' := R2.setW
      have ed : ((W' ++ [at']).map V.int).dropLast = W'.map V.int := by rw [List.map_append, List.map_singleton, List.dropLast_concat]
      rw [ed]
      have MJ0 := M.pop
      have hat : 0 ≤ at' ∧ at' < (n : Int) := by
        rcases MJ0.at_ with h | h
        · omega
        · have r := M.sound _ h
          cases r with
          | one e => exact hE _ _ e
          | more _ e => exact hE _ _ e
      have en : ((at'.toNat : Nat) : Int) = at' := by omega
      have hdat : ((List.range n).map fun k => PyData.list ((adj E (k : Nat)).map .int))[at'.toNat]? = some (.list ((adj E at').map .int)) := by
        rw [List.getElem?_map, List.getElem?_range (by omega), Option.map_some, en]
      obtain ⟨vl, hvl, hdl⟩ := d0.get hdat
      obtain ⟨l, ys, rfl, hl, _, dl⟩ := dd_lst hdl
      obtain rfl := ints_dd dl
      have hSq0 : ∀ H3, Ex H H3 → SqL K H3 a0 xs0 := fun H3 e3 => ex_l (e.trans e3) (sq_of h0)
      have hSql : ∀ H3, Ex H H3 → SqL K H3 l ((adj E at').map V.int) := fun H3 e3 => ex_l (e.trans e3) (sq_of hl)
      refine ⟨.ref a0, rfl, .int at', rfl, .inl ⟨a0, xs0, at', .ref l, rfl, rfl, hSq0 _ R3.ex, at_of en.symm hvl, ?_⟩⟩
      refine ⟨l, rfl, .inl ⟨⟨_, hSql _ R3.ex⟩, for_list (K := K) (xs := (adj E at').map V.int) (fun i σ' H' => ∃ o S' Wt', σ' = [some (.ref a0), some (.int (k : Nat)), some (.ref fa), some (.ref wa), some (.int at'), o] ∧ KS H H' fa wa S' Wt' ∧ MJ E n (k : Nat) at' ((adj E at').drop i) S' Wt' ∧ 2 * (n - S'.length) + Wt'.length < 2 * (n - S.length) + (W' ++ [at']).length) ⟨o2, S, W', rfl, R3, MJ0, by rw [List.length_append]; show _ < _ + (_ + 1); omega⟩ (fun i σ' H' _ ⟨_, _, _, _, R', _⟩ => hSql _ R'.ex) (fun i x σ' H' hx ⟨o, S', Wt', ho, R', M', hm⟩ => ?_) (fun σ' H' ⟨o, S', Wt', ho, R', M', hm⟩ => ?_)⟩⟩
      · subst ho
        obtain ⟨y, hy, rfl⟩ : ∃ y, (adj E at')[i]? = some y ∧ V.int y = x := by
          rw [List.getElem?_map] at hx
          cases hh : (adj E at')[i]? with
          | none => rw [hh] at hx; cases hx
          | some y => rw [hh] at hx; exact ⟨y, rfl, by simpa using hx⟩
        have hdrop : (adj E at').drop i = y :: (adj E at').drop (i + 1) := by
          obtain ⟨hlt, he⟩ := List.getElem?_eq_some_iff.mp hy
          rw [List.drop_eq_getElem_cons hlt, he]
        rw [hdrop] at M'
        have hSl' := M'.len hE
        have hyE : (at', y) ∈ E := mem_adj.mp (List.mem_of_getElem? hy)
        have fd : Dd K H' (.ref fa) (.list (S'.map .int)) := dd_ints R'.hf (by omega)
        have tst : ETt Fm.pure (tTest (tOp (rIn K true) (tVar 5) (tVar 2))) [some (.ref a0), some (.int (k : Nat)), some (.ref fa), some (.ref wa), some (.int at'), some (.int y)] H' (!S'.contains y) := et_is (et_cmp (ed_op (ed_var rfl (.int y)) (ed_var rfl fd) (rd_notin (.inl rfl) rfl (flatI _)))) (congrArg Bool.not (inD_int _ _))
        refine tst H' (Ex.refl H') H' okH _ fun B4 H4 s4 j4 => ?_
        have R4 := R'.mono s4.ex
        by_cases hc : S'.contains y = true
        · rw [hc, show (!true) = false from rfl, if_neg (by decide)]
          exact ⟨_, S', Wt', rfl, R4, M'.skip (List.contains_iff_mem.mp hc), hm⟩
        · have hc' : S'.contains y = false := by simpa using hc
          have hny : y ∉ S' := fun z => hc (List.contains_iff_mem.mpr z)
          rw [hc', show (!false) = true from rfl, if_pos rfl]
          have M5 := M'.add hyE hny
          have hSl5 := M5.len hE
          rw [List.length_append, List.length_singleton] at hSl5
          refine ⟨.ref fa, rfl, .inl ⟨rfl, _, sq_of R4.hf⟩, .int y, rfl, fa, _, .int y, rfl, rfl, R4.hf, by rw [List.length_map, sizeLine_eq]; omega, ?_⟩
          have e5 : S'.map V.int ++ [V.int y] = (S' ++ [y]).map V.int := by rw [List.map_append]; rfl
          rw [e5]
          have R5 : KS H (upd H4 fa (.lst ((S' ++ [y]).map V.int))) fa wa (S' ++ [y]) Wt' := R4.setF
          refine ⟨.ref wa, rfl, .inl ⟨rfl, _, sq_of R5.hw⟩, .int y, rfl, wa, _, .int y, rfl, rfl, R5.hw, by rw [List.length_map, sizeLine_eq]; omega, ?_⟩
          have e6 : Wt'.map V.int ++ [V.int y] = (Wt' ++ [y]).map V.int := by rw [List.map_append]; rfl
          rw [e6]
          refine ⟨_, S' ++ [y], Wt' ++ [y], rfl, R5.setW, M5, ?_⟩
          rw [List.length_append, List.length_append, List.length_singleton]
          omega
      · subst ho
        have M6 : MI E n (k : Nat) S' Wt' := by
          rw [List.length_map, List.drop_length] at M'
          exact M'.done
        exact ⟨2 * (n - S'.length) + Wt'.length, hm, _, _, S', Wt', rfl, R', M6, rfl, by omega⟩
end
end K12

namespace K12
open PySem PySem.Spec PyProof.Rows L2 Evl Ex Dx
open PySem.PyData (strOk)

section
variable {P : Program} {w : World} {K : PySem.W.Frag} {mg : Str → Option Value} {base : Heap} {f : Addr} {fd : FuncData}

def spEK (K : PySem.W.Frag) : Sp := fun vs H Q _ => ∃ (B : Hp) (E : List (Int × Int)) (n : Nat) (v0 : V), Ex B H ∧ vs = [v0] ∧ Dd K B v0 (adjD E n) ∧ (∀ a b, (a, b) ∈ E → 0 ≤ b ∧ b < (n : Int)) ∧ n ≤ 40 ∧ E.length ≤ 100 ∧
  ∀ v B' H', Step (fun _ => False) B H B' H' → Dd K B' v (optD (backK E n)) → Q v H'
theorem lenAdj (E : List (Int × Int)) (n : Nat) : lenD (adjD E n) = (n : Nat) := by
  show ((((List.range n).map fun k => PyData.list ((adj E (k : Nat)).map .int)).length : Nat) : Int) = _
  rw [List.length_map, List.length_range]

abbrev s_endless_kind : Stmt := topS 13
abbrev N_endless_kind : List Str := ["steps", "kind"]
theorem sc_endless_kind : FnScope N_endless_kind ["steps"] (defScope s_endless_kind) := ⟨rfl, rfl, rfl, by decide +kernel, rfl, by decide +kernel, by decide +kernel⟩
theorem ok_endless_kind (F : Fun K "endless_kind" "endless_kind" s_endless_kind f fd) (T : TC K mg) (C_kinds_behind : Callee P w K mg base "kinds_behind" 1 ["steps", "kind"] (spKB K)) : FnOk P w K mg base CX0 2 f fd ["steps"] (spEK K) := by
  refine F.ok sc_endless_kind (fun vs H Q E h => ?_) (fun cdv A outer s H vs Q E hr h => ?_)
  · obtain ⟨B, E, n, v0, e, rfl, _⟩ := h
    rfl
  · obtain ⟨B, ED_, n, vs, e, rfl, hs, hE, hn, hEl, q⟩ := h
    refine ⟨_, (pss_cons (ps_for PassesOwn.never rfl (pi_range1 rfl T.m_range (pa_cons (pe_callB (call_lenK K) (by rfl) T.m_len bt_len (pa_cons (pv 0) pa_nil)) pa_nil)) (pg_name (i := 1) sc_endless_kind.nd rfl (Or.inl rfl)) (pss_one (ps_if (pt_cmpR (op_inK K) (pv 1) (pe_callC C_kinds_behind (hr.mono (by decide)) rfl pass0 (pa_cons (pv 0) (pa_cons (pv 1) pa_nil))) (by rfl)) (pss_one (ps_ret (pv 1))) pss_nil)))
      (pss_one (ps_ret pe_non))), ?_⟩
    have a : At Fm.pure B H B H := At.start (Ok.any e)
    have key : ∀ k : Nat, (Gm.turns ED_ (k : Int) (n + 1)).contains (k : Int) = true ↔ Gm.Rch ED_ k k := fun k => by
      rw [List.contains_iff_mem]
      exact Gm.turns_all hE k
    refine qd_forR (K := K) (n := (n : Nat)) a (eds_cons (ed_is (ev_cb (eds_cons (ed_var rfl hs) eds_nil) (rc_len (x := adjD ED_ n) rfl)) (congrArg PyData.int (lenAdj ED_ n))) eds_nil) ⟨by omega, by omega⟩ (fun i σ' B' => (∃ o, σ' = [some vs, o]) ∧ ∀ k : Nat, k < i → (Gm.turns ED_ (k : Int) (n + 1)).contains (k : Int) = false) (fun B1 _ => ⟨⟨none, rfl⟩, fun k hk => absurd hk (Nat.not_lt_zero k)⟩) ?_ ?_
    · rintro Bb i σ' B2 H2 eb hi e2 a2 ⟨⟨o, rfl⟩, hno⟩
      have hi' : i < n := by omega
      have cb : EV Fm.pure (tCall (spKB K) [] E0 (tCons (tVar 0) (tCons (tVar 1) tNil))) [some vs, some (.int (i : Nat))] B2 (fun v B => ∃ S : List Int, Dd K B v (.list (S.map .int)) ∧ ∀ x, x ∈ S ↔ Gm.Rch ED_ (i : Nat) x) := fun B3 e3 H3 j3 Q3 q3 =>
        ⟨vs, rfl, .int (i : Nat), rfl, B3, ED_, n, i, vs, j3.e, rfl, hs.up ((eb.trans e2).trans e3), hE, hi', hn, hEl, fun v B' H' S s g hS => q3 v B' H' s.pure (j3.pure s) ⟨S, g, hS⟩⟩
      refine sv_if (b := (Gm.turns ED_ (i : Int) (n + 1)).contains (i : Int)) a2 (et_cmp (K := K) (ev_op (P := DD K (.int (i : Nat))) (ed_var rfl (.int (i : Nat))) cb upc_dd ?_)) (fun hb B4 H4 e4 a4 => ?_) (fun hb B4 H4 e4 a4 => ?_)
      · intro B3 e3 H3 u v j3 hu ⟨S, hS, hm⟩ Q3 q3
        refine rd_isin (F := Fm.pure) (K := K) (B := B3) (x := .int (i : Nat)) (y := .list (S.map .int)) (.inl rfl) rfl (flatI _) B3 (Ex.refl B3) H3 u v j3 hu hS Q3 fun w B' H' s j g => q3 w B' H' s j ?_
        rw [inD_int] at g
        have eb : S.contains ((i : Nat) : Int) = (Gm.turns ED_ (i : Int) (n + 1)).contains (i : Int) := by
          rw [Bool.eq_iff_iff, key, List.contains_iff_mem]
          exact hm _
        rw [eb] at g
        exact g
      · refine sv_ret (P := DD K (.int (i : Nat))) a4 (ed_var rfl (.int _)) fun v5 B5 H5 e5 a5 h5 => q _ B5 H5 a5.st ?_
        rw [backK_some hi' hb hno]
        exact h5
      · refine ⟨B4, e2.trans e4, a4, ⟨_, rfl⟩, fun k hk => ?_⟩
        rcases Nat.lt_succ_iff_lt_or_eq.mp hk with h | rfl
        · exact hno k h
        · exact hb
    · rintro σ' B2 H2 e2 a2 ⟨⟨o, rfl⟩, hno⟩
      refine sv_ret (P := DD K .none) a2 ed_non fun v5 B5 H5 e5 a5 h5 => q _ B5 H5 a5.st ?_
      rw [backK_none fun k hk => hno k (by show k < ((n : Nat) : Int).toNat; omega)]
      exact h5
theorem ev_ek {F : Fm} {σ : L2.St} {B : Hp} {te : TE} {E : List (Int × Int)} {n : Nat} (h : ED F K te σ B (adjD E n)) (hE : ∀ a b, (a, b) ∈ E → 0 ≤ b ∧ b < (n : Int)) (hn : n ≤ 40) (hl : E.length ≤ 100) : ED F K (tCall (spEK K) [] E0 (tCons te tNil)) σ B (optD (backK E n)) := fun B1 e0 H j Q q =>
  h B1 e0 H j _ fun v B2 H2 s2 j2 g => ⟨B2, E, n, v, j2.e, rfl, g, hE, hn, hl, fun v' B' H' s g' => q v' B' H' (s2.trans s.pure) (j2.pure s) g'⟩

/-! ### Pairs -/
structure TP (P : Program) (w : World) (K : PySem.W.Frag) (mg : Str → Option Value) (base : Heap) (c0 c1 c2 CP : Addr) : Prop extends TC K mg where
  x_InvalidNumber : ExcAt P w K mg base "InvalidNumber" "value" c0
  x_InvalidRules : ExcAt P w K mg base "InvalidRules" "value" c1
  x_Endless : ExcAt P w K mg base "Endless" "kind" c2
  g_Pairs : mg "Pairs" = some (.ref CP)
  cl : Cls K CP
  nk : NoAttr K CP "kinds"
  nr : NoAttr K CP "rules"
  ca : PySem.W.findIn K (.ref CP) "__class__" = some (some (.builtin "object.__class__"))
  sg : PySem.W.specialIn K (.builtin "object.__class__") "__get__" = some (some (.builtin "getset_descriptor.__get__"))
  tk : PySem.W.takesIn K (.builtin "object.__class__") = some true
  mo : PySem.W.mroIn K CP (.type "object") = some true
  kt1 : PySem.W.kitOne K (.ref CP) (.ref CP) = some true
  kt2 : PySem.W.kitOne K (.type "tuple") (.ref CP) = some false
  m00 : PySem.W.exmOne K (.ref c0) (.ref c0) = some true
  m10 : PySem.W.exmOne K (.ref c1) (.ref c0) = some false
  m11 : PySem.W.exmOne K (.ref c1) (.ref c1) = some true
  m20 : PySem.W.exmOne K (.ref c2) (.ref c0) = some false
  m21 : PySem.W.exmOne K (.ref c2) (.ref c1) = some false
  m22 : PySem.W.exmOne K (.ref c2) (.ref c2) = some true
/-- the frame of an object that stands just so -/
theorem ob_lv {x a : Addr} {o : HO} {H : Hp} (h : H x = some o) (m : a = x) (ho : nT o) : Liv H a := ⟨o, by rw [m]; exact h, ho⟩
theorem ob_fr {x a : Addr} {o o' : HO} {H : Hp} (h : H x = some o) (n : ¬ a = x) : upd H a o' x = some o := by
  rw [upd_ne (fun z => n z.symm)]
  exact h
def Fm.ob (x : Addr) (o : HO) (ho : nT o := by trivial) : Fm := ⟨fun a => a = x, fun H => H x = some o, fun _ _ e h => e _ _ h, fun _ _ h m => ob_lv h m ho, fun _ _ _ h n => ob_fr h n⟩
theorem ob_set {x : Addr} {o o' : HO} {B H : Hp} {ho : nT o} (k : Ok (Fm.ob x o ho) B H) (ho' : nT o' := by trivial) : Ok (Fm.ob x o' ho') B (upd H x o') ∧ Step (fun a => a = x) B H B (upd H x o') := by
  have bx : B x = none := k.av x rfl
  have hb : Ex B (upd H x o') := fun a u h => by
    rw [upd_ne (ne_of_none h bx)]
    exact k.e a u h
  exact ⟨⟨hb, upd_same, fun a m => by rw [show a = x from m]; exact bx⟩, Ex.refl B, hb, fun a u n h => by rw [upd_ne n]; exact h, fun a h _ => h, fun a n => by
    by_cases e : a = x
    · rw [e, upd_same]
      exact fun z => nomatch z
    · rw [upd_ne e]
      exact n, fun a n => by
    by_cases e : a = x
    · rw [e]
      exact liv_set ho'
    · exact n.upd e⟩
theorem rc_tupT {F : Fm} {B : Hp} {ds : List PyData} : RDc F K (fun xs H Q => ∃ p ys, xs = [.ref p] ∧ ((SqL K H p ys ∧ ∀ l, H l = none → Q (.ref l) (upd H l (.tup ys))) ∨ (SqT K H p ys ∧ Q (.ref p) H))) B [.tuple ds] (.tuple ds) := fun B1 e0 H us jj hu Q q => by
  obtain ⟨v, rfl, hv⟩ := arg1 hu
  obtain ⟨a, xs, rfl, h1, l1, g1⟩ := dd_tup hv
  exact ⟨a, xs, rfl, .inr ⟨ex_t jj.e h1, q _ B1 H (Step.refl jj.e) jj hv⟩⟩
theorem rc_tupA {F : Fm} {B : Hp} {d : PyData} (h : isTupD d = true) : RDc F K (fun xs H Q => ∃ p ys, xs = [.ref p] ∧ ((SqL K H p ys ∧ ∀ l, H l = none → Q (.ref l) (upd H l (.tup ys))) ∨ (SqT K H p ys ∧ Q (.ref p) H))) B [d] d := by
  obtain ⟨ds, rfl⟩ := tup_is h
  exact rc_tupT
theorem rule_tup {d : PyData} {n : Int} (h : ruleD d n = true) : isTupD d = true := by
  obtain ⟨a', s', p', ps', rfl, _⟩ := ruleD_is h
  rfl
theorem rc_tupL {F : Fm} {B : Hp} {ds : List PyData} : RDc F K (fun xs H Q => ∃ p ys, xs = [.ref p] ∧ ((SqL K H p ys ∧ ∀ l, H l = none → Q (.ref l) (upd H l (.tup ys))) ∨ (SqT K H p ys ∧ Q (.ref p) H))) B [.list ds] (.tuple ds) := fun B1 e0 H us jj hu Q q => by
  obtain ⟨v, rfl, hv⟩ := arg1 hu
  obtain ⟨a, xs, rfl, h1, l1, g1⟩ := dd_lst hv
  exact ⟨a, xs, rfl, .inl ⟨sq_of (jj.e _ _ h1), fun l hl => q _ _ _ (Step.alloc jj.e hl) (jj.alloc hl) (.tup (ta_of upd_same) l1 (g1.up (Ex.new (fresh_back jj.e hl))))⟩⟩
theorem rc_lstT {F : Fm} {B : Hp} {ds : List PyData} : RDc F K (fun xs H Q => ∃ p ys, xs = [.ref p] ∧ (SqL K H p ys ∨ SqT K H p ys) ∧ ∀ l, H l = none → Q (.ref l) (upd H l (.lst ys))) B [.tuple ds] (.list ds) := fun B1 e0 H us jj hu Q q => by
  obtain ⟨v, rfl, hv⟩ := arg1 hu
  obtain ⟨a, xs, rfl, h1, l1, g1⟩ := dd_tup hv
  exact ⟨a, xs, rfl, .inr (ex_t jj.e h1), fun l hl => q _ _ _ (Step.alloc jj.e hl) (jj.alloc hl) (.lst upd_same l1 (g1.up (Ex.new (fresh_back jj.e hl))))⟩
theorem call_tuple_ofK {X : Cx} (K : PySem.W.Frag) (hK : X.K = K := by rfl) : CallR X (.type "tuple") (fun xs H Q => ∃ p ys, xs = [.ref p] ∧ ((SqL K H p ys ∧ ∀ l, H l = none → Q (.ref l) (upd H l (.tup ys))) ∨ (SqT K H p ys ∧ Q (.ref p) H))) := by subst hK; exact call_tuple_of
theorem call_list_ofK {X : Cx} (K : PySem.W.Frag) (hK : X.K = K := by rfl) : CallR X (.type "list") (fun xs H Q => ∃ p ys, xs = [.ref p] ∧ (SqL K H p ys ∨ SqT K H p ys) ∧ ∀ l, H l = none → Q (.ref l) (upd H l (.lst ys))) := by subst hK; exact call_list_of
def spPairs (K : PySem.W.Frag) (CP c0 c1 c2 : Addr) : Sp := fun vs H Q E => ∃ (x dx : Addr) (B : Hp) (vk vr : V) (dk dr : PyData), vs = [.ref x, vk, vr] ∧ Ok (Fm.ob x (.ins CP dx [])) B H ∧ Dd K B vk dk ∧ Dd K B vr dr ∧
  (dueD dk dr = .tuple [.str "kept", dk, dr] → ∀ vk' vr' B' H', Step (fun a => a = x) B H B' H' → B' x = none → H' x = some (.ins CP dx [("kinds", vk'), ("rules", vr')]) → Dd K B' vk' dk → Dd K B' vr' dr → Q .non H') ∧
  (dueD dk dr = .tuple [.str "number", dk] → ∀ v dd B' H1 H', Step (fun a => a = x) B H B' H1 → Dd K B' v dk → Ex H1 H' → H' dd = some (.xd [("value", v)]) → E (.ref c0) (some dd) H') ∧
  (dueD dk dr = .tuple [.str "rules", dr] → ∀ v dd B' H1 H', Step (fun a => a = x) B H B' H1 → Dd K B' v dr → Ex H1 H' → H' dd = some (.xd [("value", v)]) → E (.ref c1) (some dd) H') ∧
  (∀ b : Int, dueD dk dr = .tuple [.str "endless", .int b] → ∀ v dd B' H1 H', Step (fun a => a = x) B H B' H1 → Dd K B' v (.int b) → Ex H1 H' → H' dd = some (.xd [("kind", v)]) → E (.ref c2) (some dd) H')
theorem due_num' {k r : PyData} (h : inB k 1 40 = false) : dueD k r = .tuple [.str "number", k] := by
  cases k with
  | int n =>
    have h' : ¬ (1 ≤ n ∧ n ≤ 40) := fun z => by
      unfold inB at h
      simp only [Bool.and_eq_false_iff, decide_eq_false_iff_not] at h
      omega
    unfold dueD
    simp only
    rw [if_neg h']
  | _ => rfl
theorem inB_is {k : PyData} {lo hi : Int} (h : inB k lo hi = true) : ∃ n : Int, k = .int n ∧ lo ≤ n ∧ n ≤ hi := by
  cases k with
  | int n =>
    unfold inB at h
    simp only [Bool.and_eq_true, decide_eq_true_eq] at h
    exact ⟨n, rfl, h.1, h.2⟩
  | _ => cases h
theorem rules_is {r : PyData} {n : Int} (h : rulesD r n = true) : ∃ rs, r = .tuple rs := by
  cases r with
  | tuple rs => exact ⟨rs, rfl⟩
  | _ => cases h

abbrev s_Pairs_init : Stmt := inClass (topS 21) 0
abbrev N_Pairs_init : List Str := ["self", "kinds", "rules", "endless", "rule"]
theorem sc_Pairs_init : FnScope N_Pairs_init ["self", "kinds", "rules"] (defScope s_Pairs_init) := ⟨rfl, rfl, rfl, by decide +kernel, rfl, by decide +kernel, by decide +kernel⟩
section
variable {c0 c1 c2 CP : Addr}
theorem ok_pairs (F : Fun K "__init__" "Pairs.__init__" s_Pairs_init f fd) (T : TP P w K mg base c0 c1 c2 CP) (C_is_between : Callee P w K mg base "is_between" 2 ["value", "low", "high"] (spBetween K)) (C_is_rules : Callee P w K mg base "is_rules" 4 ["value", "kinds"] (spF K (fun ds => ∃ d n, ds = [d, .int n]) fRules))
    (C_endless_kind : Callee P w K mg base "endless_kind" 2 ["steps"] (spEK K)) (C_steps_of : Callee P w K mg base "steps_of" 1 ["kinds", "rules"] (spF K preS fSteps)) : FnOk P w K mg base (L2.CX P w) 5 f fd ["self", "kinds", "rules"] (spPairs K CP c0 c1 c2) := by
  refine F.okX sc_Pairs_init (fun vs H Q E h => ?_) (fun cdv A outer s H vs Q E hr h => ?_)
  · obtain ⟨x, dx, B, vk, vr, dk, dr, rfl, _⟩ := h
    rfl
  · obtain ⟨x, dx, B, vk, vr, dk, dr, rfl, ok, hk, hrr, qk, qn, qr, qe⟩ := h
    refine ⟨_, (pss_cons (ps_if (pt_not (pt_val (pe_callC C_is_between (hr.mono (by decide)) rfl pass0 (pa_cons (pv 1) (pa_cons pe_int (pa_cons (pe_gint rfl T.c_MOST_KINDS) pa_nil)))))) (pss_one (ps_raise rfl (takes_of rfl rfl rfl rfl) (pmk_E T.x_InvalidNumber (hr.mono (by decide)) rfl (pa_cons (pv 1) pa_nil)))) pss_nil)
      (pss_cons (ps_if (pt_not (pt_val (pe_callC C_is_rules (hr.mono (by decide)) rfl pass0 (pa_cons (pv 2) (pa_cons (pv 1) pa_nil))))) (pss_one (ps_raise rfl (takes_of rfl rfl rfl rfl) (pmk_E T.x_InvalidRules (hr.mono (by decide)) rfl (pa_cons (pv 2) pa_nil)))) pss_nil)
      (pss_cons (ps_set (i := 3) sc_Pairs_init.nd rfl (Or.inl rfl) (pe_callC C_endless_kind (hr.mono (by decide)) rfl pass0 (pa_cons (pe_callC C_steps_of (hr.mono (by decide)) rfl pass0 (pa_cons (pv 1) (pa_cons (pv 2) pa_nil))) pa_nil)))
      (pss_cons (ps_if (pt_cmpR op_notN (pv 3) pe_non (nomark _)) (pss_one (ps_raise rfl (takes_of rfl rfl rfl rfl) (pmk_E T.x_Endless (hr.mono (by decide)) rfl (pa_cons (pv 3) pa_nil)))) pss_nil)
      (pss_cons (ps_fld (pv 0) (pv 1) rfl)
      (pss_one (ps_fld (pv 0) (pe_callTy (call_tuple_ofK K) (by rfl) T.m_tuple bt_tuple (pa_cons (pe_lc (own := [("rule", 4)]) rfl sc_Pairs_init.nd (pi_seqK K (pv 2)) (blkOk_by (own := [("rule", 4)]) (N := N_Pairs_init) (sc := defScope s_Pairs_init) (by decide +kernel)) (fun _ _ _ _ _ => pg_name (i := 4) sc_Pairs_init.nd rfl (Or.inl rfl)) (fun _ _ _ _ _ => pts_nil) (fun _ _ _ _ _ => (pe_callTy (call_tuple_ofK K) (by rfl) T.m_tuple bt_tuple (pa_cons (pv 4) pa_nil)))) pa_nil)) rfl))))))), ?_⟩
    have a : At (Fm.ob x (.ins CP dx [])) B H B H := At.start ok
    refine qv_when (b := !inB dk 1 40) a (et_not (et_val (ed_F (eds_cons (ed_var rfl hk) (eds_cons ed_int (eds_cons ed_int eds_nil))) ⟨_, _, _, rfl⟩ rfl))) (fun hb B1 H1 e1 a1 => ?_) (fun hb B1 H1 e1 a1 => ?_)
    · exact mk_raise (P := DD K dk) a1.j (ed_var rfl (hk.up e1)) fun v B2 H2 dd H' s2 k2 hv hd e2 hx => qn (due_num' (by simpa using hb)) v dd B2 H2 H' (a1.st.trans s2) hv e2 hx
    obtain ⟨n, rfl, n1, n2⟩ := inB_is (k := dk) (by simpa using hb)
    obtain rfl := dd_int hk
    refine qv_when (b := !rulesD dr n) a1 (et_not (et_val (ed_F (eds_cons (ed_var rfl (hrr.up e1)) (eds_cons (ed_var rfl (.int n)) eds_nil)) ⟨_, _, rfl⟩ rfl))) (fun hb2 B2 H2 e2 a2 => ?_) (fun hb2 B2 H2 e2 a2 => ?_)
    · exact mk_raise (P := DD K dr) a2.j (ed_var rfl (hrr.up (e1.trans e2))) fun v B3 H3 dd H' s3 k3 hv hd e3 hx => qr (due_rules ⟨n1, n2⟩ (by simpa using hb2)) v dd B3 H3 H' (a2.st.trans s3) hv e3 hx
    have hok : rulesD dr n = true := by simpa using hb2
    obtain ⟨rs, rfl⟩ := rules_is hok
    obtain ⟨l1, l2, hall⟩ := rules_all hok
    have en : ((n.toNat : Nat) : Int) = n := by omega
    have e12 := e1.trans e2
    have hE : ∀ a b, (a, b) ∈ edges rs → 0 ≤ b ∧ b < ((n.toNat : Nat) : Int) := fun a b h => by
      have := edges_in (n := n) hall a b h
      rw [en]
      exact ⟨this.2.2.1, this.2.2.2⟩
    refine qv_asg (P := DD K (optD (backK (edges rs) n.toNat))) a2 (ev_ek (ed_F (z := adjD (edges rs) n.toNat) (eds_cons (ed_var rfl (.int n)) (eds_cons (ed_var rfl (hrr.up e12)) eds_nil)) ⟨rs, n.toNat, by rw [en], by omega, by omega, by rw [en]; exact hall⟩ rfl) hE (by omega) (by have := edges_len rs; omega)) fun vb B3 H3 e3 a3 h3 => ?_
    have due := due_back ⟨n1, n2⟩ hok
    refine qv_when (b := !isNon (optD (backK (edges rs) n.toNat))) a3 (et_cmp (ed_op (ed_var rfl h3) ed_non rd_notN)) (fun hb4 B4 H4 e4 a4 => ?_) (fun hb4 B4 H4 e4 a4 => ?_)
    · cases hh : backK (edges rs) n.toNat with
      | none => rw [hh] at hb4; cases hb4
      | some b =>
        rw [hh] at due h3
        exact mk_raise (P := DD K (.int b)) a4.j (ed_var rfl (h3.up e4)) fun v B5 H5 dd H' s5 k5 hv hd e5 hx => qe b due v dd B5 H5 H' (a4.st.trans s5) hv e5 hx
    · have hh : backK (edges rs) n.toNat = none := by
        cases hh : backK (edges rs) n.toNat with
        | none => rfl
        | some b => rw [hh] at hb4; cases hb4
      rw [hh] at due
      have hr4 : Dd K B4 vr (.tuple rs) := hrr.up ((e12.trans e3).trans e4)
      refine ⟨.int n, rfl, .ref x, rfl, x, CP, dx, [], rfl, a4.j.j, T.cl, T.nk, by decide, ?_⟩
      obtain ⟨k5, s5⟩ := ob_set (o' := .ins CP dx (putF "kinds" (.int n) [])) a4.j
      have a5 : At (Fm.ob x (.ins CP dx (putF "kinds" (.int n) []))) B4 (upd H4 x (.ins CP dx (putF "kinds" (.int n) []))) B4 (upd H4 x (.ins CP dx (putF "kinds" (.int n) []))) := At.start k5
      have evt : ED (Fm.ob x (.ins CP dx (putF "kinds" (.int n) []))) K _ _ B4 (.tuple rs) := ev_cb (eds_cons (ed_is (ed_lcD (j := 4) (vsN := [4]) (fun _ => true) (fun r => r) (ev_seqT (ed_var (i := 2) (σ := [some (.ref x), some (.int n), some vr, some vb, none]) rfl hr4)) (by omega) (fun _ => rfl) (fun d v B6 _ _ _ => et_yes) (fun d v B6 hm _ _ hdv => ev_cb (eds_cons (ed_var (i := 4) rfl hdv) eds_nil) (rc_tupA (rule_tup (hall d hm))))) (by rw [List.filter_eq_self.mpr (fun _ _ => rfl), List.map_id'])) eds_nil) rc_tupL
      dsimp only
      unfold sFld
      refine evt B4 (Ex.refl B4) _ k5 _ fun v6 B6 H6 s6 k6 g6 => ?_
      refine ⟨.ref x, rfl, x, CP, dx, _, rfl, k6.j, T.cl, T.nr, by show 1 < 1000; decide, ?_⟩
      obtain ⟨k7, s7⟩ := ob_set (o' := .ins CP dx (putF "rules" v6 (putF "kinds" (.int n) []))) k6
      exact qk due (.int n) v6 B6 _ (((a4.st.trans s5).trans s6).trans s7) (k6.av x rfl) (by rw [upd_same]; rfl) (.int n) g6
end
end
end K12

namespace K12
open PySem PySem.Spec PyProof.Rows L2 Evl Ex Dx
open PySem.PyData (strOk)

section
variable {P : Program} {w : World} {K : PySem.W.Frag} {mg : Str → Option Value} {base : Heap} {f : Addr} {fd : FuncData}

variable {c0 c1 c2 CP : Addr}
def InsP (K : PySem.W.Frag) (CP : Addr) (dk dr : PyData) : PV := fun v B => ∃ (x dx : Addr) (vk vr : V), v = .ref x ∧ B x = some (.ins CP dx [("kinds", vk), ("rules", vr)]) ∧ Dd K B vk dk ∧ Dd K B vr dr
theorem upc_ins {dk dr : PyData} : Upc (InsP K CP dk dr) := fun v B B' e ⟨x, dx, vk, vr, h1, h2, h3, h4⟩ => ⟨x, dx, vk, vr, h1, e _ _ h2, h3.up e, h4.up e⟩
section
variable {F : Fm} {B : Hp} {σ : L2.St} {te : TE} {tas : TA} {dk dr dk2 dr2 : PyData}
theorem ev_fk (T : TP P w K mg base c0 c1 c2 CP) (h : EV F te σ B (InsP K CP dk dr)) : ED F K (tFld K te "kinds") σ B dk := fun B1 e0 H k Q q => h B1 e0 H k _ fun v B2 H2 s2 k2 ⟨x, dx, vk, vr, e, h2, h3, h4⟩ => ⟨x, CP, dx, _, vk, e, k2.e _ _ h2, T.cl, T.nk, rfl, q vk B2 H2 s2 k2 h3⟩
theorem ev_fr (T : TP P w K mg base c0 c1 c2 CP) (h : EV F te σ B (InsP K CP dk dr)) : ED F K (tFld K te "rules") σ B dr := fun B1 e0 H k Q q => h B1 e0 H k _ fun v B2 H2 s2 k2 ⟨x, dx, vk, vr, e, h2, h3, h4⟩ => ⟨x, CP, dx, _, vr, e, k2.e _ _ h2, T.cl, T.nr, rfl, q vr B2 H2 s2 k2 h4⟩
theorem ev_isP (T : TP P w K mg base c0 c1 c2 CP) (h : EV F te σ B (InsP K CP dk dr)) : ED F K (tCB (rIsi K) (tCons te (tCons (tC (.ref CP)) tNil))) σ B (.bool true) := fun B1 e0 H k Q q => h B1 e0 H k _ fun v B2 H2 s2 k2 ⟨x, dx, vk, vr, e, h2, h3, h4⟩ =>
  ⟨v, .ref CP, .ref CP, .ref CP, true, rfl, .own CP, by rw [e]; exact .base (.ins (k2.e _ _ h2) T.cl T.ca T.sg T.tk T.mo), T.kt1, q _ B2 H2 s2 k2 (.bl true)⟩
theorem ev_isT (T : TP P w K mg base c0 c1 c2 CP) {ds : List PyData} (h : ED F K te σ B (.tuple ds)) : ED F K (tCB (rIsi K) (tCons te (tCons (tC (.ref CP)) tNil))) σ B (.bool false) := fun B1 e0 H k Q q => h B1 e0 H k _ fun v B2 H2 s2 k2 g =>
  ⟨v, .ref CP, .type "tuple", .ref CP, false, rfl, .own CP, tyX (Dd.up g k2.e), T.kt2, q _ B2 H2 s2 k2 (.bl false)⟩
theorem made_step0 {x dx : Addr} {B' H H' : Hp} {o : HO} (hx : H x = none) (hdx : H dx = none) (s : Step (fun a => a = x) B (upd (upd H dx (.own x)) x o) B' H') : Step (fun _ => False) B H B' H' := by
  have up : ∀ a u, H a = some u → upd (upd H dx (.own x)) x o a = some u := fun a u h => by
    rw [upd_ne (ne_of_none h hx), upd_ne (ne_of_none h hdx)]
    exact h
  have lv : ∀ a, H a ≠ none → upd (upd H dx (.own x)) x o a ≠ none := fun a n => by
    cases hh : H a with
    | none => exact absurd hh n
    | some u =>
      rw [up a u hh]
      exact fun z => nomatch z
  have lv2 : ∀ a, Liv H a → Liv (upd (upd H dx (.own x)) x o) a := fun a ⟨u, h, n⟩ => ⟨u, up a u h, n⟩
  exact ⟨s.bb, s.bh, fun a u _ h => s.keep a u (fun z => ne_of_none h hx z) (up a u h), fun a h n => s.sep a h (lv2 a n), fun a n => s.live a (lv a n), fun a n => s.liv a (lv2 a n)⟩
theorem made_step {x dx : Addr} {B' H H' : Hp} {o o' : HO} (e : Ex B H) (hx : H x = none) (hdx : H dx = none) (s : Step (fun a => a = x) B (upd (upd H dx (.own x)) x o) B' H') (bx : B' x = none) (hx' : H' x = some o') : Step (fun _ => False) B H (upd B' x o') H' := by
  have s0 := made_step0 hx hdx s
  exact ⟨fun a u h => by rw [upd_ne (ne_of_none (e _ _ h) hx)]; exact s0.bb _ _ h, fun a u h => by
    by_cases ea : a = x
    · subst ea
      rw [upd_same] at h
      rw [hx']
      exact h
    · rw [upd_ne ea] at h
      exact s0.bh _ _ h, s0.keep, fun a h n => by
    have ea : a ≠ x := fun z => n.ne (z ▸ hx)
    rw [upd_ne ea]
    exact s0.sep a h n, s0.live, s0.liv⟩
theorem made_ok {x dx : Addr} {H : Hp} {o : HO} (e : Ex B H) (hx : H x = none) (hdx : H dx = none) (ho : nT o := by trivial) : Ok (Fm.ob x o ho) B (upd (upd H dx (.own x)) x o) := ⟨fun a u h => by
  have h' := e _ _ h
  rw [upd_ne (ne_of_none h' hx), upd_ne (ne_of_none h' hdx)]
  exact h', upd_same, fun a m => by rw [show a = x from m]; exact fresh_back e hx⟩
theorem ev_make {E : L2.St → XK} (ha : EDs F K tas σ B [dk, dr]) (hd : dueD dk dr = .tuple [.str "kept", dk, dr]) : EV F (tMakeS CP (spPairs K CP c0 c1 c2) E tas) σ B (InsP K CP dk dr) := fun B1 e0 H k Q q => ha B1 e0 H k _ fun vs B2 H2 s2 k2 g => by
  intro x dx hx hdx hne
  obtain ⟨vk, vr, rfl, gk, gr⟩ := arg2 g
  refine ⟨x, dx, B2, vk, vr, dk, dr, rfl, made_ok k2.e hx hdx, gk, gr, fun _ vk' vr' B' H' s bx hx' h1 h2 => ⟨rfl, ?_⟩, fun h => (by rw [hd] at h; cases h), fun h => (by rw [hd] at h; cases h), fun b h => (by rw [hd] at h; cases h)⟩
  have s3 := made_step k2.e hx hdx s bx hx'
  exact q _ _ _ (s2.trans s3.pure) (k2.pure s3) ⟨x, dx, vk', vr', rfl, upd_same, h1.up (Ex.new bx), h2.up (Ex.new bx)⟩
end
def spEq (K : PySem.W.Frag) (CP : Addr) : Sp := fun vs H Q _ => ∃ (B : Hp) (v u : V) (dk dr : PyData) (b : Bool), vs = [v, u] ∧ Ex B H ∧ InsP K CP dk dr v B ∧ SeqAt.shaped dk = true ∧ SeqAt.shaped dr = true ∧
  ((∃ dk2 dr2, InsP K CP dk2 dr2 u B ∧ SeqAt.shaped dk2 = true ∧ SeqAt.shaped dr2 = true ∧ b = (PyData.eqv dk dk2 && PyData.eqv dr dr2)) ∨ ((∃ ds, Dd K B u (.tuple ds)) ∧ b = false)) ∧ ∀ B' H', Step (fun _ => False) B H B' H' → Q (.bl b) H'

abbrev s_Pairs_eq : Stmt := inClass (topS 21) 1
abbrev N_Pairs_eq : List Str := ["self", "other"]
theorem sc_Pairs_eq : FnScope N_Pairs_eq ["self", "other"] (defScope s_Pairs_eq) := ⟨rfl, rfl, rfl, by decide +kernel, rfl, by decide +kernel, by decide +kernel⟩
theorem ok_eq (F : Fun K "__eq__" "Pairs.__eq__" s_Pairs_eq f fd) (T : TP P w K mg base c0 c1 c2 CP) : FnOk P w K mg base CX0 1 f fd ["self", "other"] (spEq K CP) := by
  refine F.ok sc_Pairs_eq (fun vs H Q E h => ?_) (fun cdv A outer s H vs Q E hr h => ?_)
  · obtain ⟨B, v, u, dk, dr, b, rfl, _⟩ := h
    rfl
  · obtain ⟨B, v, u, dk, dr, b, rfl, e, hi, s1, s2, hu, q⟩ := h
    have hu64 : (A.deeper (envOfC "Pairs.__eq__" (defScope s_Pairs_eq) s.heap.objs.size f cdv)).units + 64 < cLine := hr.units
    refine ⟨_, (pss_one (ps_ret (pe_and (pe_callB (call_isiK1 K) (by rfl) T.m_isinstance bt_isinstance (pa_cons (pv 1) (pa_cons (pe_glob (v := .ref _) rfl T.g_Pairs rfl) pa_nil))) (pe_and (pe_cmpR (op_eqDK K hu64) (pe_fldK K (pv 0)) (pe_fldK K (pv 1)) (nomark _)) (pe_one (pe_cmpR (op_eqDK K hu64) (pe_fldK K (pv 0)) (pe_fldK K (pv 1)) (nomark _))))))), ?_⟩
    have a : At Fm.pure B H B H := At.start (Ok.any e)

    rcases hu with ⟨dk2, dr2, hu, s3, s4, rfl⟩ | ⟨⟨ds, hu⟩, rfl⟩
    · refine sv_ret (P := DD K (.bool (PyData.eqv dk dk2 && PyData.eqv dr dr2))) a (ed_is (ed_andV (ev_isP T (ev_var rfl upc_ins hu)) fun _ => ed_andV (ed_op (ev_fk T (ev_var rfl upc_ins hi)) (ev_fk T (ev_var rfl upc_ins hu)) (rd_eqD s1 s3)) fun _ => ed_op (ev_fr T (ev_var rfl upc_ins hi)) (ev_fr T (ev_var rfl upc_ins hu)) (rd_eqD s2 s4)) (by rw [Bool.true_and])) fun v1 B1 H1 e1 a1 h1 => ?_
      obtain rfl := dd_bl h1
      exact q B1 H1 a1.st
    · refine sv_ret (P := DD K (.bool false)) a (ed_andV (c := true) (ev_isT T (ed_var rfl hu)) fun h => nomatch h) fun v1 B1 H1 e1 a1 h1 => ?_
      obtain rfl := dd_bl h1
      exact q B1 H1 a1.st
section
variable {F : Fm} {B : Hp} {dk dr dk2 dr2 : PyData} {E : XK}
theorem rv_ownEq (s1 : SeqAt.shaped dk = true) (s2 : SeqAt.shaped dr = true) (s3 : SeqAt.shaped dk2 = true) (s4 : SeqAt.shaped dr2 = true) : RV2 F (rOwnEq K CP (spEq K CP) E) B (InsP K CP dk dr) (InsP K CP dk2 dr2) (DD K (.bool (PyData.eqv dk dk2 && PyData.eqv dr dr2))) := fun B1 e0 H u v j hu hv Q q => by
  obtain ⟨x, dx, vk, vr, rfl, h1, h2, h3⟩ := hu
  obtain ⟨y, dy, wk, wr, rfl, g1, g2, g3⟩ := hv
  exact ⟨x, dx, _, rfl, j.e _ _ h1, .inl ⟨y, dy, _, rfl, j.e _ _ g1⟩, B1, .ref x, .ref y, dk, dr, _, rfl, j.e, ⟨x, dx, vk, vr, rfl, h1, h2, h3⟩, s1, s2, .inl ⟨dk2, dr2, ⟨y, dy, wk, wr, rfl, g1, g2, g3⟩, s3, s4, rfl⟩, fun B' H' s => ⟨⟨_, rfl⟩, q _ B' H' s.pure (j.pure s) (.bl _)⟩⟩
theorem rv_ownEqT {ds : List PyData} (s1 : SeqAt.shaped dk = true) (s2 : SeqAt.shaped dr = true) : RV2 F (rOwnEq K CP (spEq K CP) E) B (InsP K CP dk dr) (DD K (.tuple ds)) (DD K (.bool false)) := fun B1 e0 H u v j hu hv Q q => by
  obtain ⟨x, dx, vk, vr, rfl, h1, h2, h3⟩ := hu
  obtain ⟨y, ys, rfl, g1, g2, g3⟩ := dd_tup hv
  exact ⟨x, dx, _, rfl, j.e _ _ h1, .inr ⟨y, ys, rfl, ex_t j.e g1⟩, B1, .ref x, .ref y, dk, dr, _, rfl, j.e, ⟨x, dx, vk, vr, rfl, h1, h2, h3⟩, s1, s2, .inr ⟨⟨ds, hv⟩, rfl⟩, fun B' H' s => ⟨⟨_, rfl⟩, q _ B' H' s.pure (j.pure s) (.bl _)⟩⟩
end
def spMade (K : PySem.W.Frag) (CP : Addr) : Sp := fun vs H Q _ => ∃ (B : Hp) (v : V) (dk dr : PyData), vs = [v] ∧ Ex B H ∧ Dd K B v (.tuple [dk, dr]) ∧ dueD dk dr = .tuple [.str "kept", dk, dr] ∧ ∀ v' B' H', Step (fun _ => False) B H B' H' → InsP K CP dk dr v' B' → Q v' H'
variable {fI : Addr} {fdI : FuncData}

abbrev s_law_made : Stmt := topS 51
abbrev N_law_made : List Str := ["grammar"]
theorem sc_law_made : FnScope N_law_made ["grammar"] (defScope s_law_made) := ⟨rfl, rfl, rfl, by decide +kernel, rfl, by decide +kernel, by decide +kernel⟩
theorem ok_law_made (F : Fun K "_law_made" "_law_made" s_law_made f fd) (T : TP P w K mg base c0 c1 c2 CP) (M_Pairs : Mk K CP fI) (G_Pairs : FnOk P w K mg base (L2.CX P w) 5 fI fdI ["self", "kinds", "rules"] (spPairs K CP c0 c1 c2)) (B_Pairs : L2.Binds K fdI ["self", "kinds", "rules"] []) : FnOk P w K mg base CX0 7 f fd ["grammar"] (spMade K CP) := by
  refine F.ok sc_law_made (fun vs H Q E h => ?_) (fun cdv A outer s H vs Q E hr h => ?_)
  · obtain ⟨B, v, dk, dr, rfl, _⟩ := h
    rfl
  · obtain ⟨B, v, dk, dr, rfl, e, hv, hd, q⟩ := h
    refine ⟨_, (pss_one (ps_ret (pe_makeS M_Pairs G_Pairs (hr.mono (by decide)) rfl T.g_Pairs B_Pairs (fun σ => passAt takes0 σ) (pa_cons (pe_ix (ix_seqK K) (pv 0) pe_int (fun _ _ => rfl)) (pa_cons (pe_ix (ix_seqK K) (pv 0) pe_int (fun _ _ => rfl)) pa_nil))))), ?_⟩
    have a : At Fm.pure B H B H := At.start (Ok.any e)

    exact sv_ret (P := InsP K CP dk dr) a (ev_make (eds_cons (ed_op (ed_var rfl hv) ed_int (rd_ixT at2_0)) (eds_cons (ed_op (ed_var rfl hv) ed_int (rd_ixT at2_1)) eds_nil)) hd) fun v1 B1 H1 e1 a1 h1 => q v1 B1 H1 a1.st h1
end
end K12

namespace K12
open PySem PySem.Spec PyProof.Rows L2 Evl Ex Dx
open PySem.PyData (strOk)

section
variable {P : Program} {w : World} {K : PySem.W.Frag} {mg : Str → Option Value} {base : Heap} {f : Addr} {fd : FuncData}

abbrev L12 : List Str := ["left", "right", "same", "first", "last", "wrap", "ahead", "behind", "a", "ab", "b", "aab", "z"]
def atomD (d : PyData) : Bool := match d with
  | .int i => decide (0 ≤ i) && decide (i ≤ 40)
  | .str s => L12.contains s
  | _ => false
def smD : Nat → PyData → Bool
  | 0 => atomD
  | n + 1 => fun d => atomD d || (match d with | .tuple ds => decide (ds.length ≤ 3000) && ds.all (smD n) | _ => false)
theorem strF : ∀ s ∈ L12, strOk s = true ∧ strOk (s ++ ("b" : Str)) = true ∧ strOk (cutS s (some 1) none) = true ∧ strOk (("a" : Str) ++ s) = true ∧ s.length ≤ 100 ∧ (cutS s (some 1) none).length ≤ 100 := by decide +kernel
theorem intF : ∀ n : Fin 41, strOk (toString ((n : Nat) : Int) : Str) = true ∧ (toString ((n : Nat) : Int) : Str).length ≤ 100 := by decide +kernel
theorem atom_is {d : PyData} (h : atomD d = true) : (∃ i : Int, d = .int i ∧ 0 ≤ i ∧ i ≤ 40) ∨ ∃ s, d = .str s ∧ s ∈ L12 := by
  cases d with
  | int i =>
    have h' : (decide (0 ≤ i) && decide (i ≤ 40)) = true := h
    rw [Bool.and_eq_true, decide_eq_true_eq, decide_eq_true_eq] at h'
    exact .inl ⟨i, rfl, h'.1, h'.2⟩
  | str s => exact .inr ⟨s, rfl, List.contains_iff_mem.mp h⟩
  | _ => cases h
theorem atom_sm {d : PyData} (h : atomD d = true) (n : Nat) : Sm (n + 1) d := by
  rcases atom_is h with ⟨i, rfl, _⟩ | ⟨s, rfl, hs⟩
  · exact sm_int
  · exact sm_str (strF s hs).1
theorem smD_is {n : Nat} {d : PyData} (h : smD (n + 1) d = true) : atomD d = true ∨ ∃ ds, d = .tuple ds ∧ ds.length ≤ 3000 ∧ ∀ x ∈ ds, smD n x = true := by
  cases d with
  | tuple ds =>
    have h2 : (decide (ds.length ≤ 3000) && ds.all (smD n)) = true := h
    rw [Bool.and_eq_true, decide_eq_true_eq, List.all_eq_true] at h2
    exact .inr ⟨ds, rfl, h2.1, h2.2⟩
  | int i => exact .inl (by simpa [smD] using h)
  | str s => exact .inl (by simpa [smD] using h)
  | _ => exact .inl (by simpa [smD] using h)
theorem smD_sm : ∀ (n : Nat) (d : PyData), smD n d = true → Sm (n + 1) d
  | 0, d, h => atom_sm h 0
  | n + 1, d, h => by
    rcases smD_is h with h1 | ⟨ds, rfl, _, h2⟩
    · exact atom_sm h1 _
    · exact sm_tup fun x hx => smD_sm n x (h2 x hx)
theorem mem_cutL {α : Type} {x : α} {ds : List α} {lo hi : Option Int} (h : x ∈ cutL ds lo hi) : x ∈ ds := List.mem_of_mem_drop (List.mem_of_mem_take h)
theorem eqvT_nil : ∀ ds : List PyData, PyData.eqv (.tuple ds) (.tuple []) = ds.isEmpty
  | [] => by simp [PyData.eqv, PyData.eqvAll]
  | d :: ds => by simp [PyData.eqv, PyData.eqvAll]
/-- a test that may go either way; if it is true, c is -/
def EB (F : Fm) (tt : TT) (σ : L2.St) (B : Hp) (c : Bool) : Prop := ∀ B1, Ex B B1 → ∀ H, Ok F B1 H → ∀ Q : Bool → Hp → Prop, (∀ b B' H', Step F.M B1 H B' H' → Ok F B' H' → (b = true → c = true) → Q b H') → tt σ H Q
section
variable {F : Fm} {σ : L2.St} {B0 H0 B H : Hp} {t u : TT} {te : TE} {b c : Bool} {D : Ends} {tu tz tw : TS} {i : Int}
theorem eb_and (h1 : ETt F t σ B b) (h2 : b = true → EB F u σ B true) : EB F (tAnd t u) σ B b := fun B1 e0 H j Q q => h1 B1 e0 H j _ fun B2 H2 s2 j2 => by
  cases b with
  | true =>
    show u σ H2 Q
    exact h2 rfl B2 (e0.trans s2.bb) H2 j2 Q fun c B3 H3 s3 j3 _ => q c B3 H3 (s2.trans s3) j3 fun _ => rfl
  | false =>
    show Q false H2
    exact q false B2 H2 s2 j2 fun h => h
theorem eb_cmp {P : PV} (h : EV F te σ B P) (hp : ∀ v B1, P v B1 → ∃ b, v = .bl b) : EB F (tTest te) σ B true := fun B1 e0 H j Q q => h B1 e0 H j _ fun v B2 H2 s2 j2 g => by
  obtain ⟨b, rfl⟩ := hp v B2 g
  exact ⟨b, rfl, q b B2 H2 s2 j2 fun _ => rfl⟩
theorem eb_and' (h1 : ETt F t σ B true) (h2 : EB F u σ B true) : EB F (tAnd t u) σ B true := eb_and h1 fun _ => h2
theorem sv_ifB (a : At F B0 H0 B H) (h : EB F t σ B c) (h1 : c = true → ∀ B1 H1, Ex B B1 → At F B0 H0 B1 H1 → tu D σ H1) (h2 : ∀ B1 H1, Ex B B1 → At F B0 H0 B1 H1 → tw D σ H1) : tIfS t tu tw D σ H := h B (Ex.refl B) H a.j _ fun b B1 H1 s j hb => by
  cases b with
  | true =>
    show tu D σ H1
    exact h1 (hb rfl) B1 H1 s.bb (a.next s j)
  | false =>
    show tw D σ H1
    exact h2 B1 H1 s.bb (a.next s j)
theorem qv_whenB (a : At F B0 H0 B H) (h : EB F t σ B c) (h1 : c = true → ∀ B1 H1, Ex B B1 → At F B0 H0 B1 H1 → tu { D with nx := tz D } σ H1) (h2 : ∀ B1 H1, Ex B B1 → At F B0 H0 B1 H1 → tz D σ H1) : tSeq (tIfS t tu tNext) tz D σ H := sv_ifB (D := { D with nx := tz D }) a h h1 h2
theorem ed_neg {ta : TE} (h : ED F K ta σ B (.int i)) : ED F K (tUn (rU fun i => .int (-i)) ta) σ B (.int (-i)) := fun B1 e0 H j Q q => h B1 e0 H j _ fun v B2 H2 s2 j2 g => ⟨i, dd_int g, q _ B2 H2 s2 j2 (.int _)⟩
end
theorem lay_sh {n : Nat} {d : PyData} (h : smD (n + 1) d = true) (hn : n + 2 ≤ 64 := by omega) : SeqAt.shaped d = true := (smD_sm _ _ h).sh hn
def spSpoil (K : PySem.W.Frag) (n : Nat) : Sp := fun vs H Q _ => ∃ (p : Addr) (v : V) (B : Hp) (d : PyData), vs = [.ref p, v, .int (n : Nat)] ∧ Ok (Fm.box p) B H ∧ Dd K B v d ∧ smD n d = true ∧
  ∀ v' B' H' e, Step (fun a => a = p) B H B' H' → Ok (Fm.box p) B' H' → Dd K B' v' e → Sm (n + 2) e → Q v' H'

abbrev s_law_spoilt : Stmt := topS 46
abbrev N_law_spoilt : List Str := ["box", "value", "deep", "at", "how"]
theorem sc_law_spoilt : FnScope N_law_spoilt ["box", "value", "deep"] (defScope s_law_spoilt) := ⟨rfl, rfl, rfl, by decide +kernel, rfl, by decide +kernel, by decide +kernel⟩
theorem ok_spoilt0 (F : Fun K "_law_spoilt" "_law_spoilt" s_law_spoilt f fd) (T : TC K mg) (C_law_take : Callee P w K mg base "_law_take" 1 ["box", "many"] (spTake K)) (C_law_pick : Callee P w K mg base "_law_pick" 2 ["box", "some"] (spPick K)) (C_law_whole : Callee P w K mg base "_law_whole" 1 ["value"] (spInt K)) : FnOk P w K mg base CX0 3 f fd ["box", "value", "deep"] (spSpoil K 0) := by
  refine F.ok sc_law_spoilt (fun vs H Q E h => ?_) (fun cdv A outer s H vs Q E hr h => ?_)
  · obtain ⟨p, v, B, d, rfl, _⟩ := h
    rfl
  · obtain ⟨p, v, B, d, rfl, ok, hv, hat, q⟩ := h
    have hu64 : (A.deeper (envOfC "_law_spoilt" (defScope s_law_spoilt) s.heap.objs.size f cdv)).units + 64 < cLine := hr.units
    refine ⟨_, (pss_cons (ps_if (pt_val (pe_callB (call_isiK1 K) (by rfl) T.m_isinstance bt_isinstance (pa_cons (pv 1) (pa_cons (pe_bltn (v := .ty "tuple") (by rfl) T.m_tuple bt_tuple rfl) pa_nil)))) pss_never pss_nil)
      (pss_cons (ps_if (pt_val (pe_callB (call_isiK1 K) (by rfl) T.m_isinstance bt_isinstance (pa_cons (pv 1) (pa_cons (pe_bltn (v := .ty "str") (by rfl) T.m_str bt_str rfl) pa_nil)))) (pss_one (ps_ret (pe_callC C_law_pick (hr.mono (by decide)) rfl pass0 (pa_cons (pv 0) (pa_cons (pe_lst (pa_cons (pe_op (op_addK K) (pv 1) pe_str) (pa_cons pe_str (pa_cons (pe_slice (sl_anyK K) (pv 1) (po_some pe_int) po_none) (pa_cons (pe_op (op_addK K) pe_str (pv 1)) (pa_cons pe_int pa_nil)))))) pa_nil))))) pss_nil)
      (pss_cons (ps_if (pt_val (pe_callC C_law_whole (hr.mono (by decide)) rfl pass0 (pa_cons (pv 1) pa_nil))) (pss_one (ps_ret (pe_callC C_law_pick (hr.mono (by decide)) rfl pass0 (pa_cons (pv 0) (pa_cons (pe_lst (pa_cons (pe_op (op_addK K) (pv 1) pe_int) (pa_cons (pe_op op_sub (pv 1) pe_int) (pa_cons (pe_cmpR op_gt (pv 1) pe_int (nomark _)) (pa_cons (pe_op op_sub (pe_un un_neg pe_int) (pv 1)) (pa_cons (pe_tup (pa_cons (pv 1) pa_nil)) (pa_cons pe_non (pa_cons (pe_callTy call_str_int (by rfl) T.m_str bt_str (pa_cons (pv 1) pa_nil)) (pa_cons (pe_op (op_addK K) (pv 1) pe_int) pa_nil))))))))) pa_nil))))) pss_nil)
      (pss_one (ps_ret (pe_callC C_law_pick (hr.mono (by decide)) rfl pass0 (pa_cons (pv 0) (pa_cons (pe_lst (pa_cons pe_int (pa_cons (pe_tup pa_nil) (pa_cons pe_str pa_nil)))) pa_nil)))))))), ?_⟩
    have a : At (Fm.box p) B H B H := At.start ok
    have fin : ∀ e v B1 H1, At (Fm.box p) B H B1 H1 → Dd K B1 v e → Sm (0 + 2) e → Q v H1 := fun e v B1 H1 a1 h1 h2 => q v B1 H1 e a1.st a1.j h1 h2
    rcases atom_is hat with ⟨i, rfl, i0, i1⟩ | ⟨x, rfl, hx⟩
    · obtain rfl := dd_int hv
      refine qv_when (b := false) a (et_val (ed_isi (ed_var rfl (.int i)) (kit_tup _))) (fun h => nomatch h) (fun _ B1 H1 e1 a1 => ?_)
      refine qv_when (b := false) a1 (et_val (ed_isi (ed_var rfl (.int i)) (kit_str _))) (fun h => nomatch h) (fun _ B2 H2 e2 a2 => ?_)
      refine qv_when (b := true) a2 (et_val (ed_F (eds_cons (ed_var rfl (.int i)) eds_nil) ⟨_, rfl⟩ rfl)) (fun _ B3 H3 e3 a3 => ?_) (fun h => nomatch h)
      obtain ⟨f1, f2⟩ := intF ⟨i.toNat, by omega⟩
      have en : ((i.toNat : Nat) : Int) = i := by omega
      have f1' : strOk (toString i : Str) = true := by rw [← en]; exact f1
      have f2' : (toString i : Str).length ≤ 100 := by rw [← en]; exact f2
      refine sv_ret (P := fun v B => ∃ e, e ∈ ([.int (i + 1), .int (i - 1), .bool (decide (0 < i)), .int (-1 - i), .tuple [.int i], .none, .str (toString i), .int (i + 16)] : List PyData) ∧ Dd K B v e) a3 (ev_pick (d := .list [.int (i + 1), .int (i - 1), .bool (decide (0 < i)), .int (-1 - i), .tuple [.int i], .none, .str (toString i), .int (i + 16)]) rfl (ed_lst (eds_cons (ed_op (ed_var rfl (.int i)) ed_int rd_add) (eds_cons (ed_op (ed_var rfl (.int i)) ed_int rd_sub) (eds_cons (ed_op (ed_var rfl (.int i)) ed_int rd_gt) (eds_cons (ed_op (ed_neg ed_int) (ed_var rfl (.int i)) rd_sub) (eds_cons (ed_tup (eds_cons (ed_var rfl (.int i)) eds_nil)) (eds_cons ed_non (eds_cons (ev_cb (eds_cons (ed_var rfl (.int i)) eds_nil) (rc_str (Nat.lt_of_le_of_lt (Nat.log2_le_self _) (by omega)) (by omega))) (eds_cons (ed_op (ed_var rfl (.int i)) ed_int rd_add) eds_nil))))))))) (.inl rfl) (fun z => nomatch z) (by show 8 < 1073741824; decide)) fun v4 B4 H4 e4 a4 ⟨e, he, h4⟩ => fin e v4 B4 H4 a4 h4 ?_
      simp only [List.mem_cons, List.mem_nil_iff, or_false] at he
      rcases he with rfl | rfl | rfl | rfl | rfl | rfl | rfl | rfl
      · exact sm_int
      · exact sm_int
      · exact sm_bool
      · exact sm_int
      · exact (sm_tup (n := 1) fun d hd => by rw [List.mem_singleton.mp hd]; exact sm_int).le (by omega)
      · exact sm_none
      · exact sm_str f1'
      · exact sm_int
    · obtain ⟨g1, g2, g3, g4, g5, g6⟩ := strF x hx
      refine qv_when (b := false) a (et_val (ed_isi (ed_var rfl hv) (kit_tup _))) (fun h => nomatch h) (fun _ B1 H1 e1 a1 => ?_)
      refine qv_when (b := true) a1 (et_val (ed_isi (ed_var rfl (hv.up e1)) (kit_str _))) (fun _ B2 H2 e2 a2 => ?_) (fun h => nomatch h)
      have hv2 := hv.up (e1.trans e2)
      have lb : ("b" : Str).length = 1 := by decide +kernel
      have la : ("a" : Str).length = 1 := by decide +kernel
      refine sv_ret (P := fun v B => ∃ e, e ∈ ([.str (x ++ "b"), .str "", .str (cutS x (some 1) none), .str ("a" ++ x), .int 0] : List PyData) ∧ Dd K B v e) a2 (ev_pick (d := .list [.str (x ++ "b"), .str "", .str (cutS x (some 1) none), .str ("a" ++ x), .int 0]) rfl (ed_lst (eds_cons (ed_op (ed_var rfl hv2) ed_str (rd_addS (by omega))) (eds_cons ed_str (eds_cons (ed_slS (ed_var rfl hv2) (eo_some (K := K) ed_int) eo_none (by omega)) (eds_cons (ed_op ed_str (ed_var rfl hv2) (rd_addS (by omega))) (eds_cons ed_int eds_nil)))))) (.inl rfl) (fun z => nomatch z) (by show 5 < 1073741824; decide)) fun v4 B4 H4 e4 a4 ⟨e, he, h4⟩ => fin e v4 B4 H4 a4 h4 ?_
      simp only [List.mem_cons, List.mem_nil_iff, or_false] at he
      rcases he with rfl | rfl | rfl | rfl | rfl
      · exact sm_str g2
      · exact sm_str (by decide +kernel)
      · exact sm_str g3
      · exact sm_str g4
      · exact sm_int
theorem ok_spoiltS (n : Nat) (F : Fun K "_law_spoilt" "_law_spoilt" s_law_spoilt f fd) (T : TC K mg) (C_law_take : Callee P w K mg base "_law_take" 1 ["box", "many"] (spTake K)) (C_law_pick : Callee P w K mg base "_law_pick" 2 ["box", "some"] (spPick K)) (C_law_whole : Callee P w K mg base "_law_whole" 1 ["value"] (spInt K)) (C_law_spoilt : Callee P w K mg base "_law_spoilt" (n + 3) ["box", "value", "deep"] (spSpoil K n)) (hn : n ≤ 10) : FnOk P w K mg base CX0 (n + 4) f fd ["box", "value", "deep"] (spSpoil K (n + 1)) := by
  refine F.ok sc_law_spoilt (fun vs H Q E h => ?_) (fun cdv A outer s H vs Q E hr h => ?_)
  · obtain ⟨p, v, B, d, rfl, _⟩ := h
    rfl
  · obtain ⟨p, v, B, d, rfl, ok, hv, hsd, q⟩ := h
    have hu64 : (A.deeper (envOfC "_law_spoilt" (defScope s_law_spoilt) s.heap.objs.size f cdv)).units + 64 < cLine := hr.units
    refine ⟨_, (pss_cons (ps_if (pt_val (pe_callB (call_isiK1 K) (by rfl) T.m_isinstance bt_isinstance (pa_cons (pv 1) (pa_cons (pe_bltn (v := .ty "tuple") (by rfl) T.m_tuple bt_tuple rfl) pa_nil)))) (pss_cons (ps_set (i := 3) sc_law_spoilt.nd rfl (Or.inl rfl) (pe_callC C_law_take (hr.mono (by omega)) rfl pass0 (pa_cons (pv 0) (pa_cons (pe_op (op_addK K) (pe_callB (call_lenK K) (by rfl) T.m_len bt_len (pa_cons (pv 1) pa_nil)) pe_int) pa_nil))))
      (pss_cons (ps_if (PW.pt (pw_and (pt_cmpR (op_neDK K hu64) (pv 1) (pe_tup pa_nil) (nomark _)) (pw_and (pt_cmpR op_gt (pv 2) pe_int (nomark _)) (pw_and1 (pt_cmpR op_gt (pe_callC C_law_take (hr.mono (by omega)) rfl pass0 (pa_cons (pv 0) (pa_cons pe_int pa_nil))) pe_int (nomark _)))))) (pss_cons (ps_set (i := 3) sc_law_spoilt.nd rfl (Or.inl rfl) (pe_op op_mod (pe_callTy call_int1 (by rfl) T.m_int bt_int (pa_cons (pv 3) pa_nil)) (pe_callB (call_lenK K) (by rfl) T.m_len bt_len (pa_cons (pv 1) pa_nil))))
      (pss_one (ps_ret (pe_op (op_addK K) (pe_op (op_addK K) (pe_slice (sl_anyK K) (pv 1) po_none (po_some (pv 3))) (pe_tup (pa_cons (pe_callC C_law_spoilt (hr.mono (by omega)) rfl pass0 (pa_cons (pv 0) (pa_cons (pe_ix (ix_seqK K) (pv 1) (pv 3) (fun _ _ => rfl)) (pa_cons (pe_op op_sub (pv 2) pe_int) pa_nil)))) pa_nil))) (pe_slice (sl_anyK K) (pv 1) (po_some (pe_op (op_addK K) (pv 3) pe_int)) po_none))))) pss_nil)
      (pss_cons (ps_set (i := 4) sc_law_spoilt.nd rfl (Or.inl rfl) (pe_callC C_law_take (hr.mono (by omega)) rfl pass0 (pa_cons (pv 0) (pa_cons pe_int pa_nil))))
      (pss_cons (ps_if (pt_cmpR (op_eqDK K hu64) (pv 4) pe_int (nomark _)) (pss_one (ps_ret (pe_callTy call_list_of (by rfl) T.m_list bt_list (pa_cons (pv 1) pa_nil)))) pss_nil)
      (pss_cons (ps_if (pt_cmpR (op_eqDK K hu64) (pv 4) pe_int (nomark _)) (pss_one (ps_ret (pe_op (op_addK K) (pe_slice (sl_anyK K) (pv 1) po_none (po_some (pv 3))) (pe_slice (sl_anyK K) (pv 1) (po_some (pe_op (op_addK K) (pv 3) pe_int)) po_none)))) pss_nil)
      (pss_cons (ps_if (pt_cmpR (op_eqDK K hu64) (pv 4) pe_int (nomark _)) (pss_one (ps_ret (pe_op (op_addK K) (pe_op (op_addK K) (pe_slice (sl_anyK K) (pv 1) po_none (po_some (pv 3))) (pe_slice (sl_anyK K) (pv 1) (po_some (pv 3)) (po_some (pe_op (op_addK K) (pv 3) pe_int)))) (pe_slice (sl_anyK K) (pv 1) (po_some (pv 3)) po_none)))) pss_nil)
      (pss_cons (ps_if (pt_cmpR (op_eqDK K hu64) (pv 4) pe_int (nomark _)) (pss_one (ps_ret (pe_op (op_addK K) (pe_slice (sl_anyK K) (pv 1) (po_some (pv 3)) po_none) (pe_slice (sl_anyK K) (pv 1) po_none (po_some (pv 3)))))) pss_nil)
      (pss_cons (ps_if (pt_cmpR (op_eqDK K hu64) (pv 4) pe_int (nomark _)) (pss_one (ps_ret (pe_op (op_addK K) (pv 1) (pe_tup (pa_cons (pe_tup pa_nil) pa_nil))))) pss_nil)
      (pss_cons (ps_if (pt_cmpR (op_eqDK K hu64) (pv 4) pe_int (nomark _)) (pss_one (ps_ret (pe_op (op_addK K) (pe_op (op_addK K) (pe_slice (sl_anyK K) (pv 1) po_none (po_some (pv 3))) (pe_tup (pa_cons pe_int pa_nil))) (pe_slice (sl_anyK K) (pv 1) (po_some (pv 3)) po_none)))) pss_nil)
      (pss_cons (ps_if (pt_cmpR (op_eqDK K hu64) (pv 4) pe_int (nomark _)) (pss_one (ps_ret (pe_op (op_addK K) (pe_slice (sl_anyK K) (pv 1) po_none (po_some (pe_un un_neg pe_int))) (pe_slice (sl_anyK K) (pv 1) po_none (po_some pe_int))))) pss_nil)
      (pss_one (ps_ret pe_non)))))))))))) pss_nil)
      (pss_cons (ps_if (pt_val (pe_callB (call_isiK1 K) (by rfl) T.m_isinstance bt_isinstance (pa_cons (pv 1) (pa_cons (pe_bltn (v := .ty "str") (by rfl) T.m_str bt_str rfl) pa_nil)))) (pss_one (ps_ret (pe_callC C_law_pick (hr.mono (by omega)) rfl pass0 (pa_cons (pv 0) (pa_cons (pe_lst (pa_cons (pe_op (op_addK K) (pv 1) pe_str) (pa_cons pe_str (pa_cons (pe_slice (sl_anyK K) (pv 1) (po_some pe_int) po_none) (pa_cons (pe_op (op_addK K) pe_str (pv 1)) (pa_cons pe_int pa_nil)))))) pa_nil))))) pss_nil)
      (pss_cons (ps_if (pt_val (pe_callC C_law_whole (hr.mono (by omega)) rfl pass0 (pa_cons (pv 1) pa_nil))) (pss_one (ps_ret (pe_callC C_law_pick (hr.mono (by omega)) rfl pass0 (pa_cons (pv 0) (pa_cons (pe_lst (pa_cons (pe_op (op_addK K) (pv 1) pe_int) (pa_cons (pe_op op_sub (pv 1) pe_int) (pa_cons (pe_cmpR op_gt (pv 1) pe_int (nomark _)) (pa_cons (pe_op op_sub (pe_un un_neg pe_int) (pv 1)) (pa_cons (pe_tup (pa_cons (pv 1) pa_nil)) (pa_cons pe_non (pa_cons (pe_callTy call_str_int (by rfl) T.m_str bt_str (pa_cons (pv 1) pa_nil)) (pa_cons (pe_op (op_addK K) (pv 1) pe_int) pa_nil))))))))) pa_nil))))) pss_nil)
      (pss_one (ps_ret (pe_callC C_law_pick (hr.mono (by omega)) rfl pass0 (pa_cons (pv 0) (pa_cons (pe_lst (pa_cons pe_int (pa_cons (pe_tup pa_nil) (pa_cons pe_str pa_nil)))) pa_nil)))))))), ?_⟩
    have a : At (Fm.box p) B H B H := At.start ok
    have fin : ∀ e v B1 H1, At (Fm.box p) B H B1 H1 → Dd K B1 v e → Sm (n + 1 + 2) e → Q v H1 := fun e v B1 H1 a1 h1 h2 => q v B1 H1 e a1.st a1.j h1 h2
    rcases smD_is hsd with hat | ⟨ds, rfl, hl, hall⟩
    · rcases atom_is hat with ⟨i, rfl, i0, i1⟩ | ⟨x, rfl, hx⟩
      · obtain rfl := dd_int hv
        refine qv_when (b := false) a (et_val (ed_isi (ed_var rfl (.int i)) (kit_tup _))) (fun h => nomatch h) (fun _ B1 H1 e1 a1 => ?_)
        refine qv_when (b := false) a1 (et_val (ed_isi (ed_var rfl (.int i)) (kit_str _))) (fun h => nomatch h) (fun _ B2 H2 e2 a2 => ?_)
        refine qv_when (b := true) a2 (et_val (ed_F (eds_cons (ed_var rfl (.int i)) eds_nil) ⟨_, rfl⟩ rfl)) (fun _ B3 H3 e3 a3 => ?_) (fun h => nomatch h)
        obtain ⟨f1, f2⟩ := intF ⟨i.toNat, by omega⟩
        have en : ((i.toNat : Nat) : Int) = i := by omega
        have f1' : strOk (toString i : Str) = true := by rw [← en]; exact f1
        have f2' : (toString i : Str).length ≤ 100 := by rw [← en]; exact f2
        refine sv_ret (P := fun v B => ∃ e, e ∈ ([.int (i + 1), .int (i - 1), .bool (decide (0 < i)), .int (-1 - i), .tuple [.int i], .none, .str (toString i), .int (i + 16)] : List PyData) ∧ Dd K B v e) a3 (ev_pick (d := .list [.int (i + 1), .int (i - 1), .bool (decide (0 < i)), .int (-1 - i), .tuple [.int i], .none, .str (toString i), .int (i + 16)]) rfl (ed_lst (eds_cons (ed_op (ed_var rfl (.int i)) ed_int rd_add) (eds_cons (ed_op (ed_var rfl (.int i)) ed_int rd_sub) (eds_cons (ed_op (ed_var rfl (.int i)) ed_int rd_gt) (eds_cons (ed_op (ed_neg ed_int) (ed_var rfl (.int i)) rd_sub) (eds_cons (ed_tup (eds_cons (ed_var rfl (.int i)) eds_nil)) (eds_cons ed_non (eds_cons (ev_cb (eds_cons (ed_var rfl (.int i)) eds_nil) (rc_str (Nat.lt_of_le_of_lt (Nat.log2_le_self _) (by omega)) (by omega))) (eds_cons (ed_op (ed_var rfl (.int i)) ed_int rd_add) eds_nil))))))))) (.inl rfl) (fun z => nomatch z) (by show 8 < 1073741824; decide)) fun v4 B4 H4 e4 a4 ⟨e, he, h4⟩ => fin e v4 B4 H4 a4 h4 ?_
        simp only [List.mem_cons, List.mem_nil_iff, or_false] at he
        rcases he with rfl | rfl | rfl | rfl | rfl | rfl | rfl | rfl
        · exact sm_int
        · exact sm_int
        · exact sm_bool
        · exact sm_int
        · exact (sm_tup (n := 1) fun d hd => by rw [List.mem_singleton.mp hd]; exact sm_int).le (by omega)
        · exact sm_none
        · exact sm_str f1'
        · exact sm_int
      · obtain ⟨g1, g2, g3, g4, g5, g6⟩ := strF x hx
        refine qv_when (b := false) a (et_val (ed_isi (ed_var rfl hv) (kit_tup _))) (fun h => nomatch h) (fun _ B1 H1 e1 a1 => ?_)
        refine qv_when (b := true) a1 (et_val (ed_isi (ed_var rfl (hv.up e1)) (kit_str _))) (fun _ B2 H2 e2 a2 => ?_) (fun h => nomatch h)
        have hv2 := hv.up (e1.trans e2)
        have lb : ("b" : Str).length = 1 := by decide +kernel
        have la : ("a" : Str).length = 1 := by decide +kernel
        refine sv_ret (P := fun v B => ∃ e, e ∈ ([.str (x ++ "b"), .str "", .str (cutS x (some 1) none), .str ("a" ++ x), .int 0] : List PyData) ∧ Dd K B v e) a2 (ev_pick (d := .list [.str (x ++ "b"), .str "", .str (cutS x (some 1) none), .str ("a" ++ x), .int 0]) rfl (ed_lst (eds_cons (ed_op (ed_var rfl hv2) ed_str (rd_addS (by omega))) (eds_cons ed_str (eds_cons (ed_slS (ed_var rfl hv2) (eo_some (K := K) ed_int) eo_none (by omega)) (eds_cons (ed_op ed_str (ed_var rfl hv2) (rd_addS (by omega))) (eds_cons ed_int eds_nil)))))) (.inl rfl) (fun z => nomatch z) (by show 5 < 1073741824; decide)) fun v4 B4 H4 e4 a4 ⟨e, he, h4⟩ => fin e v4 B4 H4 a4 h4 ?_
        simp only [List.mem_cons, List.mem_nil_iff, or_false] at he
        rcases he with rfl | rfl | rfl | rfl | rfl
        · exact sm_str g2
        · exact sm_str (by decide +kernel)
        · exact sm_str g3
        · exact sm_str g4
        · exact sm_int
    · have hsm : ∀ y ∈ ds, Sm (n + 2) y := fun y hy => (smD_sm n y (hall y hy)).le (by omega)
      have hsh : SeqAt.shaped (.tuple ds) = true ∨ True := .inr trivial
      have dr : ∀ (σ : L2.St) B2 (m : Int), σ[0]? = some (some (V.ref p)) → 0 < m → m < 1073741824 → EV (Fm.box p) (tCall (spTake K) [] E0 (tCons (tVar 0) (tCons (tC (.int m)) tNil))) σ B2 (fun v _ => ∃ i : Int, v = .int i ∧ 0 ≤ i ∧ i < m) := fun σ B2 m hσ h0 h1 => ev_take hσ ed_int h0 h1
      refine qv_when (b := true) a (et_val (ed_isi (ed_var rfl hv) (kit_tup _))) (fun _ B1 H1 e1 a1 => ?_) (fun h => nomatch h)
      refine qv_asg (P := fun v _ => ∃ i : Int, v = .int i ∧ 0 ≤ i ∧ i < (ds.length : Nat) + 1) a1 (ev_take rfl (ed_op (ev_cb (eds_cons (ed_var rfl (hv.up e1)) eds_nil) (rc_len (x := .tuple ds) rfl)) ed_int rd_add) (by show (0 : Int) < (ds.length : Nat) + 1; omega) (by show ((ds.length : Nat) : Int) + 1 < 1073741824; omega)) fun vat B2 H2 e2 a2 ⟨i, hi, i0, i1⟩ => ?_
      subst hi
      have eB2 := e1.trans e2
      refine qv_whenB (c := !ds.isEmpty) a2 (eb_and (et_is (et_cmp (ed_op (ed_var rfl (hv.up eB2)) (ed_tup eds_nil) (rd_neD (lay_sh hsd) rfl))) (by rw [eqvT_nil])) fun _ => eb_and' (et_is (et_cmp (K := K) (ed_op (ed_var rfl (.int ((n + 1 : Nat) : Int))) ed_int rd_gt)) (decide_eq_true (by omega))) (eb_cmp (P := fun v _ => ∃ b, v = .bl b) (ev_op (P' := DD K (.int 0)) (dr _ _ 5 rfl (by decide) (by decide)) ed_int (fun _ _ _ _ h => h) ?_) fun v B h => h)) (fun hne B3 H3 e3 a3 => ?_) (fun B3 H3 e3 a3 => ?_)
      · intro B6 _ H6 u v j6 ⟨k, hu, _⟩ hv Q q
        exact ⟨k, 0, hu, dd_int hv, q _ B6 H6 (Step.refl j6.e) j6 ⟨_, rfl⟩⟩
      · have hpos : 0 < ds.length := by
          cases ds with
          | nil => cases hne
          | cons _ _ => exact Nat.succ_pos _
        have eB3 := eB2.trans e3
        refine qv_asg a3 (ed_op (ev_cb (eds_cons (ed_var rfl (.int i)) eds_nil) rc_int1) (ev_cb (eds_cons (ed_var rfl (hv.up eB3)) eds_nil) (rc_len (x := .tuple ds) rfl)) (rd_mod (by show (0 : Int) < (ds.length : Nat); omega))) fun vj B4 H4 e4 a4 hj => ?_
        obtain rfl := dd_int hj
        have j0 : 0 ≤ i % ((ds.length : Nat) : Int) := Int.emod_nonneg i (by omega)
        have j1 : i % ((ds.length : Nat) : Int) < (ds.length : Nat) := Int.emod_lt_of_pos i (by omega)
        obtain ⟨j, hjd⟩ : ∃ j : Int, j = i % ((ds.length : Nat) : Int) := ⟨_, rfl⟩
        have hlj : lenD (.tuple ds) = ((ds.length : Nat) : Int) := rfl
        rw [hlj, ← hjd]
        rw [← hjd] at j0 j1
        obtain ⟨x, hx⟩ : ∃ x, ds[j.toNat]? = some x := ⟨_, List.getElem?_eq_getElem (by omega)⟩
        have hat : atI ds j = some x := by
          have h := atI_nat hx
          rw [show ((j.toNat : Nat) : Int) = j by omega] at h
          exact h
        have hxs := hall x (List.mem_of_getElem? hx)
        have eB4 := eB3.trans e4
        have hv4 := hv.up eB4
        have L1 := cutL_len ds none (some j)
        have L2 := cutL_len ds (some (j + 1)) none
        refine sv_ret (P := fun v B => ∃ e, Dd K B v (.tuple ((cutL ds none (some j) ++ [e]) ++ cutL ds (some (j + 1)) none)) ∧ Sm (n + 2) e) a4 (ev_op (P := fun v B => ∃ e, Dd K B v (.tuple (cutL ds none (some j) ++ [e])) ∧ Sm (n + 2) e) (P' := DD K (.tuple (cutL ds (some (j + 1)) none))) (ev_op (P := DD K (.tuple (cutL ds none (some j)))) (P' := fun v B => ∃ e, Dd K B v (.tuple [e]) ∧ Sm (n + 2) e) (ed_slT (ed_var rfl hv4) eo_none (eo_some (K := K) (ed_var rfl (.int j)))) ?_ upc_dd ?_) (ed_slT (ed_var rfl hv4) (eo_some (K := K) (ed_op (ed_var rfl (.int j)) ed_int rd_add)) eo_none) (fun v B B' e ⟨x, h1, h2⟩ => ⟨x, h1.up e, h2⟩) ?_) fun v9 B9 H9 e9 a9 ⟨e, h9, hs9⟩ => fin _ v9 B9 H9 a9 h9 ?_
        · intro B5 e5 H5 j5 Q5 q5
          refine ⟨.ref p, rfl, ?_⟩
          refine (ed_op (F := Fm.box p) (K := K) (σ := [some (.ref p), some v, some (.int ((n + 1 : Nat) : Int)), some (.int j), none]) (B := B4) (ta := tVar 1) (tb := tVar 3) (ed_var (i := 1) rfl hv4) (ed_var (i := 3) rfl (.int j)) (rd_ixT hat)) B5 e5 H5 j5 _ fun vx B6 H6 s6 j6 g6 => ?_
          refine ⟨_, rfl, ((n + 1 : Nat) : Int), 1, rfl, rfl, ?_⟩
          refine ⟨p, vx, B6, x, ?_, j6, g6, hxs, fun v' B7 H7 e7 s7 j7 g7 hs7 => ⟨by show 1 ≤ sizeLine; decide, fun p' hp' => q5 (.ref p') _ _ ((s6.trans s7).trans (Step.alloc j7.e hp')) (j7.alloc hp') ⟨e7, .tup (ta_of upd_same) (by show 1 ≤ sizeLine; decide) (.cons (g7.up (Ex.new (fresh_back j7.e hp'))) .nil), hs7⟩⟩⟩
          show [V.ref p, vx, V.int (((n + 1 : Nat) : Int) - 1)] = [V.ref p, vx, V.int ((n : Nat) : Int)]
          rw [show (((n + 1 : Nat) : Int) - 1) = ((n : Nat) : Int) by omega]
        · intro B5 e5 H5 u w5 j5 hu ⟨e, h1, h2⟩ Q5 q5
          exact rd_addT (F := Fm.box p) (K := K) (B := B5) (by simp only [List.length_cons, List.length_nil]; omega) B5 (Ex.refl B5) H5 u w5 j5 hu h1 Q5 fun z B6 H6 s6 j6 g6 => q5 z B6 H6 s6 j6 ⟨e, g6, h2⟩
        · intro B5 e5 H5 u w5 j5 ⟨e, h1, h2⟩ hw Q5 q5
          exact rd_addT (F := Fm.box p) (K := K) (B := B5) (by simp only [List.length_append, List.length_cons, List.length_nil]; omega) B5 (Ex.refl B5) H5 u w5 j5 h1 hw Q5 fun z B6 H6 s6 j6 g6 => q5 z B6 H6 s6 j6 ⟨e, g6, h2⟩
        · refine sm_tup fun y hy => ?_
          simp only [List.mem_append, List.mem_cons, List.mem_nil_iff, or_false] at hy
          rcases hy with (hy | rfl) | hy
          · exact hsm y (mem_cutL hy)
          · exact hs9
          · exact hsm y (mem_cutL hy)
      have eB3 := eB2.trans e3
      refine qv_asg (P := fun v _ => ∃ h : Int, v = .int h ∧ 0 ≤ h ∧ h < 8) a3 (dr _ _ 8 rfl (by decide) (by decide)) fun vh B10 H10 e10 a10 ⟨h, hh, _, _⟩ => ?_
      subst hh
      have eB10 := eB3.trans e10
      refine qv_when (b := PyData.eqv (.int h) (.int 0)) a10 (et_cmp (ed_op (ed_var rfl (.int h)) ed_int (rd_eqD rfl rfl))) (fun _ B11' H11' e' a' => ?_) (fun _ B11 H11 e11 a11 => ?_)
      · have hv' := hv.up (eB10.trans e')
        refine sv_ret (P := DD K (.list ds)) a' (ev_cb (eds_cons (ed_var rfl hv') eds_nil) rc_lstT) fun v9 B9 H9 e9 a9 h9 => fin _ v9 B9 H9 a9 h9 ?_
        exact (sm_lst fun y hy => hsm y hy).le (by omega)
      have eB11 := eB10.trans e11
      refine qv_when (b := PyData.eqv (.int h) (.int 1)) a11 (et_cmp (ed_op (ed_var rfl (.int h)) ed_int (rd_eqD rfl rfl))) (fun _ B12' H12' e' a' => ?_) (fun _ B12 H12 e12 a12 => ?_)
      · have hv' := hv.up (eB11.trans e')
        refine sv_ret (P := DD K (.tuple (cutL ds none (some i) ++ cutL ds (some (i + 1)) none))) a' (ed_op (ed_slT (ed_var rfl hv') eo_none (eo_some (K := K) (ed_var rfl (.int i)))) (ed_slT (ed_var rfl hv') (eo_some (K := K) (ed_op (ed_var rfl (.int i)) ed_int rd_add)) eo_none) (rd_addT (by have h1 := cutL_len ds none (some i); have h2 := cutL_len ds (some (i + 1)) none; have h3 := cutL_len ds (some i) none; have h4 := cutL_len ds (some i) (some (i + 1)); have h5 := cutL_len ds none (some (-1)); have h6 := cutL_len ds none (some 1); (try simp only [List.length_append, List.length_cons, List.length_nil]); omega))) fun v9 B9 H9 e9 a9 h9 => fin _ v9 B9 H9 a9 h9 ?_
        refine sm_tup fun y hy => ?_
        simp only [List.mem_append, List.mem_cons, List.mem_nil_iff, or_false] at hy
        rcases hy with hy | hy <;> exact hsm y (mem_cutL hy)
      have eB12 := eB11.trans e12
      refine qv_when (b := PyData.eqv (.int h) (.int 2)) a12 (et_cmp (ed_op (ed_var rfl (.int h)) ed_int (rd_eqD rfl rfl))) (fun _ B13' H13' e' a' => ?_) (fun _ B13 H13 e13 a13 => ?_)
      · have hv' := hv.up (eB12.trans e')
        refine sv_ret (P := DD K (.tuple ((cutL ds none (some i) ++ cutL ds (some i) (some (i + 1))) ++ cutL ds (some i) none))) a' (ed_op (ed_op (ed_slT (ed_var rfl hv') eo_none (eo_some (K := K) (ed_var rfl (.int i)))) (ed_slT (ed_var rfl hv') (eo_some (K := K) (ed_var rfl (.int i))) (eo_some (K := K) (ed_op (ed_var rfl (.int i)) ed_int rd_add))) (rd_addT (by have h1 := cutL_len ds none (some i); have h2 := cutL_len ds (some (i + 1)) none; have h3 := cutL_len ds (some i) none; have h4 := cutL_len ds (some i) (some (i + 1)); have h5 := cutL_len ds none (some (-1)); have h6 := cutL_len ds none (some 1); (try simp only [List.length_append, List.length_cons, List.length_nil]); omega))) (ed_slT (ed_var rfl hv') (eo_some (K := K) (ed_var rfl (.int i))) eo_none) (rd_addT (by have h1 := cutL_len ds none (some i); have h2 := cutL_len ds (some (i + 1)) none; have h3 := cutL_len ds (some i) none; have h4 := cutL_len ds (some i) (some (i + 1)); have h5 := cutL_len ds none (some (-1)); have h6 := cutL_len ds none (some 1); (try simp only [List.length_append, List.length_cons, List.length_nil]); omega))) fun v9 B9 H9 e9 a9 h9 => fin _ v9 B9 H9 a9 h9 ?_
        refine sm_tup fun y hy => ?_
        simp only [List.mem_append, List.mem_cons, List.mem_nil_iff, or_false] at hy
        rcases hy with (hy | hy) | hy <;> exact hsm y (mem_cutL hy)
      have eB13 := eB12.trans e13
      refine qv_when (b := PyData.eqv (.int h) (.int 3)) a13 (et_cmp (ed_op (ed_var rfl (.int h)) ed_int (rd_eqD rfl rfl))) (fun _ B14' H14' e' a' => ?_) (fun _ B14 H14 e14 a14 => ?_)
      · have hv' := hv.up (eB13.trans e')
        refine sv_ret (P := DD K (.tuple (cutL ds (some i) none ++ cutL ds none (some i)))) a' (ed_op (ed_slT (ed_var rfl hv') (eo_some (K := K) (ed_var rfl (.int i))) eo_none) (ed_slT (ed_var rfl hv') eo_none (eo_some (K := K) (ed_var rfl (.int i)))) (rd_addT (by have h1 := cutL_len ds none (some i); have h2 := cutL_len ds (some (i + 1)) none; have h3 := cutL_len ds (some i) none; have h4 := cutL_len ds (some i) (some (i + 1)); have h5 := cutL_len ds none (some (-1)); have h6 := cutL_len ds none (some 1); (try simp only [List.length_append, List.length_cons, List.length_nil]); omega))) fun v9 B9 H9 e9 a9 h9 => fin _ v9 B9 H9 a9 h9 ?_
        refine sm_tup fun y hy => ?_
        simp only [List.mem_append, List.mem_cons, List.mem_nil_iff, or_false] at hy
        rcases hy with hy | hy <;> exact hsm y (mem_cutL hy)
      have eB14 := eB13.trans e14
      refine qv_when (b := PyData.eqv (.int h) (.int 4)) a14 (et_cmp (ed_op (ed_var rfl (.int h)) ed_int (rd_eqD rfl rfl))) (fun _ B15' H15' e' a' => ?_) (fun _ B15 H15 e15 a15 => ?_)
      · have hv' := hv.up (eB14.trans e')
        refine sv_ret (P := DD K (.tuple (ds ++ [.tuple []]))) a' (ed_op (ed_var rfl hv') (ed_tup (eds_cons (ed_tup eds_nil) eds_nil)) (rd_addT (by have h1 := cutL_len ds none (some i); have h2 := cutL_len ds (some (i + 1)) none; have h3 := cutL_len ds (some i) none; have h4 := cutL_len ds (some i) (some (i + 1)); have h5 := cutL_len ds none (some (-1)); have h6 := cutL_len ds none (some 1); (try simp only [List.length_append, List.length_cons, List.length_nil]); omega))) fun v9 B9 H9 e9 a9 h9 => fin _ v9 B9 H9 a9 h9 ?_
        refine sm_tup fun y hy => ?_
        simp only [List.mem_append, List.mem_cons, List.mem_nil_iff, or_false] at hy
        rcases hy with hy | rfl
        · exact hsm y hy
        · exact (sm_tup (n := 0) (ds := []) fun z hz => nomatch hz).le (by omega)
      have eB15 := eB14.trans e15
      refine qv_when (b := PyData.eqv (.int h) (.int 5)) a15 (et_cmp (ed_op (ed_var rfl (.int h)) ed_int (rd_eqD rfl rfl))) (fun _ B16' H16' e' a' => ?_) (fun _ B16 H16 e16 a16 => ?_)
      · have hv' := hv.up (eB15.trans e')
        refine sv_ret (P := DD K (.tuple ((cutL ds none (some i) ++ [.int 0]) ++ cutL ds (some i) none))) a' (ed_op (ed_op (ed_slT (ed_var rfl hv') eo_none (eo_some (K := K) (ed_var rfl (.int i)))) (ed_tup (eds_cons ed_int eds_nil)) (rd_addT (by have h1 := cutL_len ds none (some i); have h2 := cutL_len ds (some (i + 1)) none; have h3 := cutL_len ds (some i) none; have h4 := cutL_len ds (some i) (some (i + 1)); have h5 := cutL_len ds none (some (-1)); have h6 := cutL_len ds none (some 1); (try simp only [List.length_append, List.length_cons, List.length_nil]); omega))) (ed_slT (ed_var rfl hv') (eo_some (K := K) (ed_var rfl (.int i))) eo_none) (rd_addT (by have h1 := cutL_len ds none (some i); have h2 := cutL_len ds (some (i + 1)) none; have h3 := cutL_len ds (some i) none; have h4 := cutL_len ds (some i) (some (i + 1)); have h5 := cutL_len ds none (some (-1)); have h6 := cutL_len ds none (some 1); (try simp only [List.length_append, List.length_cons, List.length_nil]); omega))) fun v9 B9 H9 e9 a9 h9 => fin _ v9 B9 H9 a9 h9 ?_
        refine sm_tup fun y hy => ?_
        simp only [List.mem_append, List.mem_cons, List.mem_nil_iff, or_false] at hy
        rcases hy with (hy | rfl) | hy
        · exact hsm y (mem_cutL hy)
        · exact sm_int
        · exact hsm y (mem_cutL hy)
      have eB16 := eB15.trans e16
      refine qv_when (b := PyData.eqv (.int h) (.int 6)) a16 (et_cmp (ed_op (ed_var rfl (.int h)) ed_int (rd_eqD rfl rfl))) (fun _ B17' H17' e' a' => ?_) (fun _ B17 H17 e17 a17 => ?_)
      · have hv' := hv.up (eB16.trans e')
        refine sv_ret (P := DD K (.tuple (cutL ds none (some (-1)) ++ cutL ds none (some 1)))) a' (ed_op (ed_slT (ed_var rfl hv') eo_none (eo_some (K := K) (ed_neg ed_int))) (ed_slT (ed_var rfl hv') eo_none (eo_some (K := K) ed_int)) (rd_addT (by have h1 := cutL_len ds none (some i); have h2 := cutL_len ds (some (i + 1)) none; have h3 := cutL_len ds (some i) none; have h4 := cutL_len ds (some i) (some (i + 1)); have h5 := cutL_len ds none (some (-1)); have h6 := cutL_len ds none (some 1); (try simp only [List.length_append, List.length_cons, List.length_nil]); omega))) fun v9 B9 H9 e9 a9 h9 => fin _ v9 B9 H9 a9 h9 ?_
        refine sm_tup fun y hy => ?_
        simp only [List.mem_append, List.mem_cons, List.mem_nil_iff, or_false] at hy
        rcases hy with hy | hy <;> exact hsm y (mem_cutL hy)
      have eB17 := eB16.trans e17
      exact sv_ret (P := DD K .none) a17 ed_non fun v9 B9 H9 e9 a9 h9 => fin _ v9 B9 H9 a9 h9 sm_none
end
end K12

namespace K12
open PySem PySem.Spec PyProof.Rows L2 Evl Ex Dx
open PySem.PyData (strOk)

section
variable {P : Program} {w : World} {K : PySem.W.Frag} {mg : Str → Option Value} {base : Heap} {f : Addr} {fd : FuncData}

/-! ### lists that grow while draws are made -/
section
variable {F : Fm} {B1 H1 B' H' B5 H5 : Hp} {fa : Addr} {acc : List V} {ds : List PyData}
theorem cq_set {acc' : List V} {ds' : List PyData} (hD : H1 fa = none) (k1 : Ok F B1 H1) (s : Step F.M B1 H1 B' H') (k : Ok F B' H') (hb : B' fa = none) (ha : DdAll K B' acc' ds') : Cq F K B1 H1 fa ds' (upd H' fa (.lst acc')) := by
  have nm : ¬ F.M fa := fun m => (F.lv H1 fa k1.j m).ne hD
  have s2 : Step F.M B1 H1 B' (upd H' fa (.lst acc')) := ⟨s.bb, fun a o h => by rw [upd_ne (ne_of_none h hb)]; exact k.e a o h, fun a o n h => by rw [upd_ne (ne_of_none h hD)]; exact s.keep a o n h, s.sep, fun a n => by
    have ha : a ≠ fa := fun z => n (z ▸ hD)
    rw [upd_ne ha]
    exact s.live a n, fun a n => (s.liv a n).upd fun z => n.ne (z ▸ hD)⟩
  have j2 : F.J (upd H' fa (.lst acc')) := F.fr H' fa _ k.j nm
  exact ⟨B', acc', s2, k1.next s2 j2, hb, upd_same, ha⟩
/-- opened: the list stands as data for a while -/
theorem cq_open (hD : H1 fa = none) (k1 : Ok F B1 H1) (k : Ok F B' H') (hb : B' fa = none) (hd : H' fa = some (.lst acc)) (ha : DdAll K B' acc ds) (hl : ds.length ≤ 16777216) : Ok F (upd B' fa (.lst acc)) H' ∧ Dd K (upd B' fa (.lst acc)) (.ref fa) (.list ds) := by
  have nm : ¬ F.M fa := fun m => (F.lv H1 fa k1.j m).ne hD
  refine ⟨⟨fun a o h => ?_, k.j, fun a m => ?_⟩, .lst upd_same (by rw [ha.len, sizeLine_eq]; exact hl) (ha.up (Ex.new hb))⟩
  · by_cases e : a = fa
    · subst e
      rw [upd_same] at h
      rw [hd]
      exact h
    · rw [upd_ne e] at h
      exact k.e a o h
  · have e : a ≠ fa := fun z => nm (z ▸ m)
    rw [upd_ne e]
    exact k.av a m
def del1 (B : Hp) (fa : Addr) : Hp := fun a => if a = fa then none else B a
theorem del1_ne {B : Hp} {a : Addr} (h : a ≠ fa) : del1 B fa a = B a := by
  unfold del1
  rw [if_neg h]
theorem del1_same {B : Hp} : del1 B fa fa = none := by
  unfold del1
  rw [if_pos rfl]
theorem del1_sub {B : Hp} {a : Addr} {o : HO} (h : del1 B fa a = some o) : a ≠ fa ∧ B a = some o := by
  unfold del1 at h
  split at h
  · cases h
  · rename_i n
    exact ⟨n, h⟩
/-- closed again -/
theorem cq_close (hD : H1 fa = none) (k1 : Ok F B1 H1) (s : Step F.M B1 H1 B' H') (hb : B' fa = none) (hd : H' fa = some (.lst acc)) (s5 : Step F.M (upd B' fa (.lst acc)) H' B5 H5) (k5 : Ok F B5 H5) :
    Step F.M B1 H1 (del1 B5 fa) H5 ∧ Ok F (del1 B5 fa) H5 ∧ Ex B' (del1 B5 fa) ∧ H5 fa = some (.lst acc) := by
  have nm : ¬ F.M fa := fun m => (F.lv H1 fa k1.j m).ne hD
  have eB : Ex B' (del1 B5 fa) := fun a o h => by
    have n : a ≠ fa := ne_of_none h hb
    rw [del1_ne n]
    exact s5.bb a o (by rw [upd_ne n]; exact h)
  have eH : Ex (del1 B5 fa) H5 := fun a o h => k5.e a o (del1_sub h).2
  have st : Step F.M B1 H1 (del1 B5 fa) H5 := ⟨fun a o h => eB a o (s.bb a o h), eH, fun a o n h => s5.keep a o n (s.keep a o n h), fun a h n => by
    have na : a ≠ fa := fun z => n.ne (z ▸ hD)
    rw [del1_ne na]
    exact s5.sep a (by rw [upd_ne na]; exact s.sep a h n) (s.liv a n), fun a n => s5.live a (s.live a n), fun a n => s5.liv a (s.liv a n)⟩
  exact ⟨st, k1.next st k5.j, eB, s5.keep fa _ nm hd⟩
/-- flat data have no list within -/
theorem flat_del {B : Hp} : ∀ {vs : List V} {ds : List PyData}, DdAll K B vs ds → ds.all flatD = true → DdAll K (del1 B fa) vs ds
  | _, _, .nil, _ => .nil
  | _, _, .cons a t, h => by
    rw [List.all_cons, Bool.and_eq_true] at h
    refine .cons ?_ (flat_del t h.2)
    cases a with
    | non => exact .non
    | bl b => exact .bl b
    | int i => exact .int i
    | str x hl => exact .str x hl
    | lst _ _ _ => cases h.1
    | tup _ _ _ => cases h.1
theorem tup_del {B : Hp} {v : V} {xs : List PyData} (h : Dd K B v (.tuple xs)) (hf : B fa = some (.lst acc)) (fl : xs.all flatD = true) : Dd K (del1 B fa) v (.tuple xs) := by
  obtain ⟨a, ys, rfl, h1, h2, h3⟩ := dd_tupA h
  refine .tup ?_ h2 (flat_del h3 fl)
  rcases h1 with h1 | h1
  · have n : a ≠ fa := fun z => by rw [z, hf] at h1; cases h1
    exact .inl (by rw [del1_ne n]; exact h1)
  · exact .inr h1
end
/-! ### _law_shuffled -/
def spShuf (K : PySem.W.Frag) : Sp := fun vs H Q _ => ∃ (p : Addr) (v : V) (B : Hp) (rs : List PyData), vs = [.ref p, v] ∧ Ok (Fm.box p) B H ∧ Dd K B v (.list rs) ∧ rs.length ≤ 100 ∧
  ∀ v' B' H' (rs' : List PyData), Step (fun a => a = p) B H B' H' → Ok (Fm.box p) B' H' → Dd K B' v' (.list rs') → rs'.Perm rs → Q v' H'
theorem DdAll.ins {H : Hp} {vs : List V} {ds : List PyData} {v : V} {d : PyData} (h : DdAll K H vs ds) (g : Dd K H v d) (n : Nat) : DdAll K H (vs.take n ++ [v] ++ vs.drop n) (ds.take n ++ [d] ++ ds.drop n) := ((h.take n).snoc g).app (h.drop n)
theorem ins_perm (n : Nat) (l : List PyData) (d : PyData) : (l.take n ++ [d] ++ l.drop n).Perm (l ++ [d]) := by
  have h1 : (l.take n ++ [d] ++ l.drop n).Perm (d :: (l.take n ++ l.drop n)) := by
    rw [List.append_assoc]
    exact List.perm_middle
  rw [List.take_append_drop] at h1
  exact h1.trans (List.perm_append_singleton d l).symm

abbrev s_law_shuffled : Stmt := topS 47
abbrev N_law_shuffled : List Str := ["box", "some", "found", "one"]
theorem sc_law_shuffled : FnScope N_law_shuffled ["box", "some"] (defScope s_law_shuffled) := ⟨rfl, rfl, rfl, by decide +kernel, rfl, by decide +kernel, by decide +kernel⟩
theorem ok_shuffled (F : Fun K "_law_shuffled" "_law_shuffled" s_law_shuffled f fd) (T : TC K mg) (C_law_take : Callee P w K mg base "_law_take" 1 ["box", "many"] (spTake K)) : FnOk P w K mg base CX0 2 f fd ["box", "some"] (spShuf K) := by
  refine F.ok sc_law_shuffled (fun vs H Q E h => ?_) (fun cdv A outer s H vs Q E hr h => ?_)
  · obtain ⟨p, v, B, rs, rfl, _⟩ := h
    rfl
  · obtain ⟨p, v, B, rs, rfl, ok, hv, hl, q⟩ := h
    obtain ⟨l, xs, rfl, h1, _, hx⟩ := dd_lst hv
    refine ⟨_, (pss_cons (ps_set (i := 2) sc_law_shuffled.nd rfl (Or.inl rfl) (pe_lst pa_nil))
      (pss_cons (ps_for PassesOwn.never rfl (pi_seqK K (pv 1)) (pg_name (i := 3) sc_law_shuffled.nd rfl (Or.inl rfl)) (pss_one (ps_expr (pe_bm PySem.F.plainAttrs_list PySem.F.slot_list_insert PySem.F.type_list_insert mt_insert (pv 2) (pa_cons (pe_callC C_law_take (hr.mono (by decide)) rfl pass0 (pa_cons (pv 0) (pa_cons (pe_op (op_addK K) (pe_callB (call_lenK K) (by rfl) T.m_len bt_len (pa_cons (pv 2) pa_nil)) pe_int) pa_nil))) (pa_cons (pv 3) pa_nil))))))
      (pss_one (ps_ret (pv 2))))), ?_⟩
    refine ⟨Nat.zero_le _, fun fa hfa => ?_⟩
    have nfp : fa ≠ p := fun z => ((Fm.box p).lv H p ok.j rfl).ne (z ▸ hfa)
    refine ⟨.ref l, rfl, l, rfl, .inl ⟨⟨xs, ex_l (ok.e.trans (Ex.new hfa)) (sq_of h1)⟩, for_list (K := K) (xs := xs) (fun i σ' H' => (∃ o, σ' = [some (.ref p), some (.ref l), some (.ref fa), o]) ∧ ∃ rs', rs'.Perm (rs.take i) ∧ Cq (Fm.box p) K B H fa rs' H') ⟨⟨none, rfl⟩, [], List.Perm.refl _, cq_start ok hfa⟩ (fun i σ' H' _ ⟨_, rs', _, B', acc, s', k', _⟩ => ex_l (s'.bb.trans k'.e) (sq_of h1)) (fun i x σ' H' hi ⟨⟨o, ho⟩, rs', hp, B', acc, s', k', hb, hd, ha⟩ => ?_) (fun σ' H' ⟨⟨o, ho⟩, rs', hp, c⟩ => ?_)⟩⟩
    · subst ho
      obtain ⟨r, hr1, hr2⟩ := hx.getv hi
      have hlt : i < rs.length := (List.getElem?_eq_some_iff.mp hr1).1
      have hlen : rs'.length = i := by
        rw [hp.length_eq, List.length_take]
        omega
      have hacc : acc.length = i := by rw [ha.len, hlen]
      refine ⟨.ref fa, rfl, .inl ⟨rfl, _, sq_of hd⟩, ?_⟩
      refine ⟨.ref p, rfl, ⟨.ref fa, rfl, ⟨.ref fa, acc.length, rfl, .inl ⟨_, sq_of hd, rfl⟩, .inl ⟨_, 1, rfl, rfl, ?_⟩⟩⟩⟩
      refine ⟨p, [.int ((acc.length : Nat) + 1)], B', [.int ((acc.length : Nat) + 1)], rfl, k', .cons (.int _) .nil, ⟨_, rfl, by omega, by omega⟩, fun vj B4 H4 s4 k4 ⟨j, m, em, ej, j0, j1⟩ => ?_⟩
      cases em
      subst ej
      refine ⟨x, rfl, ?_⟩
      have hd4 : H4 fa = some (.lst acc) := s4.keep fa _ nfp hd
      refine ⟨fa, acc, j, x, rfl, rfl, hd4, by rw [sizeLine_eq]; omega, j0, by omega, ?_⟩
      have hb4 : B4 fa = none := s4.sep fa hb ⟨_, hd, trivial⟩
      have c := cq_set (acc' := acc.take j.toNat ++ [x] ++ acc.drop j.toNat) (ds' := rs'.take j.toNat ++ [r] ++ rs'.drop j.toNat) hfa ok (s'.trans s4) k4 hb4 (DdAll.ins (ha.up s4.bb) (hr2.up (s'.bb.trans s4.bb)) j.toNat)
      refine ⟨⟨_, rfl⟩, _, ?_, c⟩
      rw [take_snoc hr1]
      exact (ins_perm _ _ _).trans (hp.append_right [r])
    · subst ho
      refine ⟨.ref fa, rfl, ?_⟩
      rw [hx.len, List.take_length] at hp
      obtain ⟨B2, s2, k2, g2⟩ := cq_done ok hfa (by rw [hp.length_eq]; omega) c
      exact q _ B2 H' rs' s2 k2 g2 hp
end
end K12

namespace K12
open PySem PySem.Spec PyProof.Rows L2 Evl Ex Dx
open PySem.PyData (strOk)

section
variable {P : Program} {w : World} {K : PySem.W.Frag} {mg : Str → Option Value} {base : Heap} {f : Addr} {fd : FuncData}

abbrev W4 : List Str := ["a", "ab", "b", "aab"]
abbrev L8 : List Str := ["left", "right", "wrap", "ahead", "behind", "same", "first", "last"]
def RG (n : Nat) (r : PyData) : Prop := ruleD r n = true ∧ smD 1 r = true
theorem inS_iff {s : Str} {L : List Str} : inS s L = true ↔ s ∈ L := by
  unfold inS
  rw [List.any_eq_true]
  constructor
  · rintro ⟨x, hx, he⟩
    rw [beq_iff_eq] at he
    exact he ▸ hx
  · intro h
    exact ⟨s, h, beq_self_eq_true s⟩
theorem w4_ok : ∀ u ∈ W4, wordD (.str u) = true ∧ u ∈ L12 ∧ u.length ≤ 10 := by decide +kernel
theorem l8_ok : ∀ u ∈ L8, u ∈ L12 ∧ u.length ≤ 10 ∧ (u ∈ WSH ∨ u ∈ TSH ∨ u ∈ OSH) ∧ (u ∈ OSH → inS u WSH = false) ∧ (u ∈ TSH → inS u WSH = false ∧ inS u OSH = false) := by decide +kernel
theorem inB_ok {k : Int} {n : Nat} (h0 : 0 ≤ k) (h1 : k < (n : Nat)) : inB (.int k) 0 ((n : Nat) - 1) = true := by
  unfold inB
  simp only [Bool.and_eq_true, decide_eq_true_eq]
  omega
theorem atomI {k : Int} {n : Nat} (hn : n ≤ 8) (h0 : 0 ≤ k) (h1 : k < (n : Nat)) : atomD (.int k) = true := by
  show (decide (0 ≤ k) && decide (k ≤ 40)) = true
  rw [Bool.and_eq_true, decide_eq_true_eq, decide_eq_true_eq]
  omega
theorem atomS {s : Str} (h : s ∈ L12) : atomD (.str s) = true := List.contains_iff_mem.mpr h
theorem sm1 {xs : List PyData} (hl : xs.length ≤ 20) (h : ∀ x ∈ xs, atomD x = true) : smD 1 (.tuple xs) = true := by
  show (atomD (.tuple xs) || (decide (xs.length ≤ 3000) && xs.all (smD 0))) = true
  have e : xs.all (smD 0) = true := List.all_eq_true.mpr fun x hx => h x hx
  rw [decide_eq_true (show xs.length ≤ 3000 by omega), e, Bool.true_and, Bool.or_true]
theorem rg_word {n : Nat} {k : Int} {wd u : Str} (hn : n ≤ 8) (h0 : 0 ≤ k) (h1 : k < (n : Nat)) (hw : wd ∈ WSH) (h8 : wd ∈ L8) (hu : u ∈ W4) : RG n (.tuple [.int k, .str wd, .str u]) := by
  refine ⟨?_, sm1 (by show 3 ≤ 20; decide) fun x hx => ?_⟩
  · show (inB (.int k) 0 ((n : Nat) - 1) && tailD wd [.str u] n) = true
    rw [inB_ok h0 h1]
    unfold tailD
    rw [if_pos (inS_iff.mpr hw)]
    show (true && (decide (1 = 1) && wordD (.str u))) = true
    rw [(w4_ok u hu).1]
    rfl
  · simp only [List.mem_cons, List.mem_nil_iff, or_false] at hx
    rcases hx with rfl | rfl | rfl
    · exact atomI hn h0 h1
    · exact atomS (l8_ok wd h8).1
    · exact atomS (w4_ok u hu).2.1
theorem rg_one {n : Nat} {k c : Int} {wd : Str} (hn : n ≤ 8) (h0 : 0 ≤ k) (h1 : k < (n : Nat)) (hw : wd ∈ OSH) (h8 : wd ∈ L8) (c0 : 0 ≤ c) (c1 : c < (n : Nat)) : RG n (.tuple [.int k, .str wd, .int c]) := by
  refine ⟨?_, sm1 (by show 3 ≤ 20; decide) fun x hx => ?_⟩
  · show (inB (.int k) 0 ((n : Nat) - 1) && tailD wd [.int c] n) = true
    rw [inB_ok h0 h1]
    unfold tailD
    rw [(l8_ok wd h8).2.2.2.1 hw, if_neg (by decide), if_pos (inS_iff.mpr hw)]
    show (true && (decide (1 = 1) && inB (.int c) 0 ((n : Nat) - 1))) = true
    rw [inB_ok c0 c1]
    rfl
  · simp only [List.mem_cons, List.mem_nil_iff, or_false] at hx
    rcases hx with rfl | rfl | rfl
    · exact atomI hn h0 h1
    · exact atomS (l8_ok wd h8).1
    · exact atomI hn c0 c1
theorem rg_two {n : Nat} {k c d : Int} {wd : Str} (hn : n ≤ 8) (h0 : 0 ≤ k) (h1 : k < (n : Nat)) (hw : wd ∈ TSH) (h8 : wd ∈ L8) (c0 : 0 ≤ c) (c1 : c < (n : Nat)) (d0 : 0 ≤ d) (d1 : d < (n : Nat)) : RG n (.tuple [.int k, .str wd, .int c, .int d]) := by
  refine ⟨?_, sm1 (by show 4 ≤ 20; decide) fun x hx => ?_⟩
  · show (inB (.int k) 0 ((n : Nat) - 1) && tailD wd [.int c, .int d] n) = true
    rw [inB_ok h0 h1]
    unfold tailD
    rw [((l8_ok wd h8).2.2.2.2 hw).1, ((l8_ok wd h8).2.2.2.2 hw).2, if_neg (by decide), if_neg (by decide), inS_iff.mpr hw, List.all_cons, List.all_cons, inB_ok c0 c1, inB_ok d0 d1]
    rfl
  · simp only [List.mem_cons, List.mem_nil_iff, or_false] at hx
    rcases hx with rfl | rfl | rfl | rfl
    · exact atomI hn h0 h1
    · exact atomS (l8_ok wd h8).1
    · exact atomI hn c0 c1
    · exact atomI hn d0 d1
theorem flat_atom {x : PyData} (h : atomD x = true) : flatD x = true := by
  rcases atom_is h with ⟨i, rfl, _⟩ | ⟨s, rfl, _⟩ <;> rfl
theorem RG.flat {n : Nat} {r : PyData} (h : RG n r) : ∃ xs, r = .tuple xs ∧ xs.all flatD = true := by
  obtain ⟨a, s, p, ps, rfl, _⟩ := ruleD_is h.1
  rcases smD_is h.2 with h1 | ⟨ds, e, _, h2⟩
  · cases h1
  · cases e
    exact ⟨_, rfl, List.all_eq_true.mpr fun x hx => flat_atom (h2 x hx)⟩
structure GR (n : Nat) (rs : List PyData) : Prop where
  len : rs.length ≤ 9
  ok : ∀ r ∈ rs, RG n r
  bk : backK (edges rs) n = none
theorem GR.ruleD {n : Nat} {rs : List PyData} (h : GR n rs) (r : PyData) (hr : r ∈ rs) : ruleD r n = true := (h.ok r hr).1
theorem edges_app (rs : List PyData) (r : PyData) : edges (rs ++ [r]) = edges rs ++ (if isOne r = true then [edge r] else []) := by
  unfold edges
  rw [List.filter_append, List.map_append]
  congr 1
  by_cases h : isOne r = true
  · rw [if_pos h, List.filter_cons, if_pos h]
    rfl
  · rw [if_neg h, List.filter_cons, if_neg h]
    rfl
theorem GR.snoc0 {n : Nat} {rs : List PyData} {r : PyData} (h : GR n rs) (hl : rs.length < 9) (hr : RG n r) (ho : isOne r = false) : GR n (rs ++ [r]) := ⟨by rw [List.length_append]; show rs.length + 1 ≤ 9; omega, fun x hx => by
  rcases List.mem_append.mp hx with h1 | h1
  · exact h.ok x h1
  · rw [List.mem_singleton.mp h1]
    exact hr, by
  rw [edges_app, ho, if_neg (by decide), List.append_nil]
  exact h.bk⟩
theorem GR.snoc1 {n : Nat} {rs : List PyData} {r : PyData} (h : GR n rs) (hl : rs.length < 9) (hr : RG n r) (ho : backK (edges (rs ++ [r])) n = none) : GR n (rs ++ [r]) := ⟨by rw [List.length_append]; show rs.length + 1 ≤ 9; omega, fun x hx => by
  rcases List.mem_append.mp hx with h1 | h1
  · exact h.ok x h1
  · rw [List.mem_singleton.mp h1]
    exact hr, ho⟩
theorem GR.perm {n : Nat} {rs rs' : List PyData} (h : GR n rs) (p : rs'.Perm rs) : GR n rs' := by
  have hok : ∀ r ∈ rs', RG n r := fun r hr => h.ok r (p.mem_iff.mp hr)
  refine ⟨by rw [p.length_eq]; exact h.len, hok, ?_⟩
  have pe : (edges rs').Perm (edges rs) := (p.filter isOne).map edge
  have b1 := backK_bk (E := edges rs) (n := n) fun a b hab => by
    have := edges_in (n := (n : Nat)) (fun r hr => (h.ok r hr).1) a b hab
    exact ⟨this.2.2.1, this.2.2.2⟩
  have b2 := backK_bk (E := edges rs') (n := n) fun a b hab => by
    have := edges_in (n := (n : Nat)) (fun r hr => (hok r hr).1) a b hab
    exact ⟨this.2.2.1, this.2.2.2⟩
  rw [(b2.ext fun q => pe.mem_iff).uniq b1]
  exact h.bk
def spGram (K : PySem.W.Frag) : Sp := fun vs H Q _ => ∃ (a : Addr) (ns : List Int) (B : Hp), vs = [.ref a, .int 9] ∧ Ex B H ∧ SqL K B a (ns.map V.int) ∧ ns.length ≤ 63 ∧
  ∀ v B' H' (n : Nat) (rs : List PyData), Step (fun _ => False) B H B' H' → Dd K B' v (.tuple [.int (n : Nat), .tuple rs]) → 1 ≤ n → n ≤ 8 → rs ≠ [] → GR n rs → Q v H'
theorem step_box {p : Addr} {B H B1 H1 B2 H2 : Hp} (hp : H p = none) (s1 : Step (fun _ => False) B H B1 H1) (s2 : Step (fun a => a = p) B1 H1 B2 H2) : Step (fun _ => False) B H B2 H2 :=
  ⟨s1.bb.trans s2.bb, s2.bh, fun a o _ h => s2.keep a o (fun z => ne_of_none h hp z) (s1.keep a o (fun z => z) h), fun a h n => s2.sep a (s1.sep a h n) (s1.liv a n), fun a n => s2.live a (s1.live a n), fun a n => s2.liv a (s1.liv a n)⟩
theorem cq_pass {F : Fm} {B1 H1 B' H' B4 H4 : Hp} {fa : Addr} {acc : List V} {ds : List PyData} (hD : H1 fa = none) (k1 : Ok F B1 H1) (s : Step F.M B1 H1 B' H') (hb : B' fa = none) (hd : H' fa = some (.lst acc)) (ha : DdAll K B' acc ds) (s4 : Step F.M B' H' B4 H4) (k4 : Ok F B4 H4) : Cq F K B1 H1 fa ds H4 := by
  have nm : ¬ F.M fa := fun m => (F.lv H1 fa k1.j m).ne hD
  exact ⟨B4, acc, s.trans s4, k4, s4.sep fa hb ⟨_, hd, trivial⟩, s4.keep fa _ nm hd, ha.up s4.bb⟩
def pK (i : Int) (r : PyData) : Bool := match r with
  | .tuple (x :: .str s :: _) => PyData.eqv x (.int i) && inS s WSH
  | _ => false
theorem evp_take {p : Addr} {σ : L2.St} {B : Hp} {i : Nat} {ta : TE} {E : XK} {m : Int} (hi : σ[i]? = some (some (.ref p))) (ha : ED (Fm.box p) K ta σ B (.int m)) (h0 : 0 < m) (h1 : m < 1073741824) : EV (Fm.box p) (tCall (spTake K) [] E (tCons (tVar i) (tCons ta tNil))) σ B (fun v B => ∃ n : Int, Dd K B v (.int n) ∧ 0 ≤ n ∧ n < m) := (ev_take hi ha h0 h1).imp fun v B1 _ ⟨n, hv, g0, g1⟩ => ⟨n, by rw [hv]; exact .int n, g0, g1⟩
/-- a pair, a triple whose parts are known up to a choice -/
theorem ev_tup3 {F : Fm} {σ : L2.St} {B : Hp} {ta tb tc : TE} {Pa Pb Pc : PyData → Prop} (ha : EV F ta σ B (fun v B => ∃ d, Dd K B v d ∧ Pa d)) (hb : EV F tb σ B (fun v B => ∃ d, Dd K B v d ∧ Pb d)) (hc : EV F tc σ B (fun v B => ∃ d, Dd K B v d ∧ Pc d)) :
    EV F (tTup (tCons ta (tCons tb (tCons tc tNil)))) σ B (fun v B => ∃ x y z, Dd K B v (.tuple [x, y, z]) ∧ Pa x ∧ Pb y ∧ Pc z) := fun B1 e0 H j Q q =>
  ha B1 e0 H j _ fun va B2 H2 s2 j2 ⟨x, h2, px⟩ => hb B2 (e0.trans s2.bb) H2 j2 _ fun vb B3 H3 s3 j3 ⟨y, h3, py⟩ => hc B3 ((e0.trans s2.bb).trans s3.bb) H3 j3 _ fun vc B4 H4 s4 j4 ⟨z, h4, pz⟩ =>
    ⟨by show 3 ≤ sizeLine; decide, fun p hp => q (.ref p) _ _ (((s2.trans s3).trans s4).trans (Step.alloc j4.e hp)) (j4.alloc hp) ⟨x, y, z, .tup (ta_of upd_same) (by show 3 ≤ sizeLine; decide) (.cons ((h2.up (s3.bb.trans s4.bb)).up (Ex.new (fresh_back j4.e hp))) (.cons ((h3.up s4.bb).up (Ex.new (fresh_back j4.e hp))) (.cons (h4.up (Ex.new (fresh_back j4.e hp))) .nil))), px, py, pz⟩⟩
theorem ev_any {F : Fm} {σ : L2.St} {B : Hp} {te : TE} {d : PyData} (h : ED F K te σ B d) : EV F te σ B (fun v B => ∃ e, Dd K B v e ∧ e = d) := h.imp fun v B1 _ hv => ⟨d, hv, rfl⟩
theorem ev_tup1 {F : Fm} {σ : L2.St} {B : Hp} {ta : TE} {Pa : PyData → Prop} (ha : EV F ta σ B (fun v B => ∃ d, Dd K B v d ∧ Pa d)) : EV F (tTup (tCons ta tNil)) σ B (fun v B => ∃ x, Dd K B v (.tuple [x]) ∧ Pa x) := fun B1 e0 H j Q q =>
  ha B1 e0 H j _ fun va B2 H2 s2 j2 ⟨x, h2, px⟩ => ⟨by show 1 ≤ sizeLine; decide, fun p hp => q (.ref p) _ _ (s2.trans (Step.alloc j2.e hp)) (j2.alloc hp) ⟨x, .tup (ta_of upd_same) (by show 1 ≤ sizeLine; decide) (.cons (h2.up (Ex.new (fresh_back j2.e hp))) .nil), px⟩⟩
theorem strs_len : ∀ L : List Str, (L.map PyData.str).length = L.length := fun L => List.length_map _

abbrev s_law_grammar : Stmt := topS 50
abbrev N_law_grammar : List Str := ["script", "most", "box", "kinds", "words", "rules", "k", "kind", "word", "rule"]
theorem sc_law_grammar : FnScope N_law_grammar ["script", "most"] (defScope s_law_grammar) := ⟨rfl, rfl, rfl, by decide +kernel, rfl, by decide +kernel, by decide +kernel⟩
theorem ok_grammar (F : Fun K "_law_grammar" "_law_grammar" s_law_grammar f fd) (T : TC K mg) (C_law_box : Callee P w K mg base "_law_box" 1 ["script", "k"] (spBoxN K)) (C_law_take : Callee P w K mg base "_law_take" 1 ["box", "many"] (spTake K)) (C_law_pick : Callee P w K mg base "_law_pick" 2 ["box", "some"] (spPick K))
    (C_law_unary : Callee P w K mg base "_law_unary" 1 ["rules"] (spF K preUn fUn)) (C_law_back_kind : Callee P w K mg base "_law_back_kind" 1 ["steps", "kinds"] (spF K preBack fBack)) (C_law_shuffled : Callee P w K mg base "_law_shuffled" 2 ["box", "some"] (spShuf K)) : FnOk P w K mg base CX0 3 f fd ["script", "most"] (spGram K) := by
  refine F.ok sc_law_grammar (fun vs H Q E h => ?_) (fun cdv A outer s H vs Q E hr h => ?_)
  · obtain ⟨a, ns, B, rfl, _⟩ := h
    rfl
  · obtain ⟨a, ns, B, rfl, e, hS, hl, q⟩ := h
    have hu64 : (A.deeper (envOfC "_law_grammar" (defScope s_law_grammar) s.heap.objs.size f cdv)).units + 64 < cLine := hr.units
    refine ⟨_, (pss_cons (ps_set (i := 2) sc_law_grammar.nd rfl (Or.inl rfl) (pe_callC C_law_box (hr.mono (by decide)) rfl pass0 (pa_cons (pv 0) (pa_cons pe_int pa_nil))))
      (pss_cons (ps_set (i := 3) sc_law_grammar.nd rfl (Or.inl rfl) (pe_callC C_law_pick (hr.mono (by decide)) rfl pass0 (pa_cons (pv 2) (pa_cons (pe_lst (pa_cons pe_int (pa_cons pe_int (pa_cons pe_int (pa_cons pe_int (pa_cons pe_int (pa_cons pe_int (pa_cons pe_int (pa_cons pe_int pa_nil))))))))) pa_nil))))
      (pss_cons (ps_set (i := 4) sc_law_grammar.nd rfl (Or.inl rfl) (pe_callC C_law_pick (hr.mono (by decide)) rfl pass0 (pa_cons (pv 2) (pa_cons (pe_lst (pa_cons (pe_lst (pa_cons pe_str pa_nil)) (pa_cons (pe_lst (pa_cons pe_str (pa_cons pe_str pa_nil))) (pa_cons (pe_lst (pa_cons pe_str (pa_cons pe_str (pa_cons pe_str pa_nil)))) (pa_cons (pe_lst (pa_cons pe_str (pa_cons pe_str pa_nil))) pa_nil))))) pa_nil))))
      (pss_cons (ps_set (i := 5) sc_law_grammar.nd rfl (Or.inl rfl) (pe_lst pa_nil))
      (pss_cons (ps_for PassesOwn.never rfl (pi_range1 rfl T.m_range (pa_cons (pe_op (op_addK K) pe_int (pe_callC C_law_take (hr.mono (by decide)) rfl pass0 (pa_cons (pv 2) (pa_cons (pe_op op_sub (pv 1) pe_int) pa_nil)))) pa_nil)) (pg_name (i := 6) sc_law_grammar.nd rfl (Or.inl rfl)) (pss_cons (ps_set (i := 7) sc_law_grammar.nd rfl (Or.inr rfl) (pe_callC C_law_take (hr.mono (by decide)) rfl pass0 (pa_cons (pv 2) (pa_cons (pv 3) pa_nil))))
      (pss_cons (ps_set (i := 8) sc_law_grammar.nd rfl (Or.inl rfl) (pe_callC C_law_pick (hr.mono (by decide)) rfl pass0 (pa_cons (pv 2) (pa_cons (pe_lst (pa_cons pe_str (pa_cons pe_str (pa_cons pe_str (pa_cons pe_str (pa_cons pe_str (pa_cons pe_str (pa_cons pe_str (pa_cons pe_str (pa_cons pe_str (pa_cons pe_str (pa_cons pe_str pa_nil)))))))))))) pa_nil))))
      (pss_cons (ps_set (i := 9) sc_law_grammar.nd rfl (Or.inl rfl) (pe_tup (pa_cons (pv 7) (pa_cons (pv 8) (pa_cons (pe_callC C_law_take (hr.mono (by decide)) rfl pass0 (pa_cons (pv 2) (pa_cons (pv 3) pa_nil))) pa_nil)))))
      (Evl.pss_cut (ps_if (pt_cmpR (op_inK K) (pv 8) (pe_lst (pa_cons pe_str (pa_cons pe_str pa_nil))) (by rfl)) (pss_one (ps_set (i := 9) sc_law_grammar.nd rfl (Or.inl rfl) (pe_tup (pa_cons (pv 7) (pa_cons (pv 8) (pa_cons (pe_callC C_law_pick (hr.mono (by decide)) rfl pass0 (pa_cons (pv 2) (pa_cons (pv 4) pa_nil))) pa_nil)))))) (pss_one (ps_if (pt_cmpR (op_inK K) (pv 8) (pe_lst (pa_cons pe_str (pa_cons pe_str (pa_cons pe_str pa_nil)))) (by rfl)) (pss_one (ps_set (i := 9) sc_law_grammar.nd rfl (Or.inl rfl) (pe_op (op_addK K) (pv 9) (pe_tup (pa_cons (pe_callC C_law_take (hr.mono (by decide)) rfl pass0 (pa_cons (pv 2) (pa_cons (pv 3) pa_nil))) pa_nil))))) pss_nil)))
      (pss_one (ps_if (pt_cmpR op_isN (pe_callC C_law_back_kind (hr.mono (by decide)) rfl pass0 (pa_cons (pe_callC C_law_unary (hr.mono (by decide)) rfl pass0 (pa_cons (pe_op (op_addK K) (pv 5) (pe_lst (pa_cons (pv 9) pa_nil))) pa_nil)) (pa_cons (pv 3) pa_nil))) pe_non (nomark _)) (pss_one (ps_expr (pe_bm PySem.F.plainAttrs_list PySem.F.slot_list_append PySem.F.type_list_append mt_append (pv 5) (pa_cons (pv 9) pa_nil)))) pss_nil)))))))
      (Evl.pss_cut (ps_if (pt_cmpR op_gt (pe_callC C_law_take (hr.mono (by decide)) rfl pass0 (pa_cons (pv 2) (pa_cons pe_int pa_nil))) pe_int (nomark _)) (pss_one (ps_for PassesOwn.never rfl (pi_range1 rfl T.m_range (pa_cons (pv 3) pa_nil)) (pg_name (i := 7) sc_law_grammar.nd rfl (Or.inr rfl)) (pss_one (ps_if (PW.pt (pw_and (pt_cmpR op_lt (pe_callB (call_lenK K) (by rfl) T.m_len bt_len (pa_cons (pv 5) pa_nil)) (pv 1) (nomark _)) (pw_and1 (pt_cmpR (op_eqDK K hu64) (pe_lc (own := [("rule", 9)]) rfl sc_law_grammar.nd (pi_seqK K (pv 5)) (blkOk_by (own := [("rule", 9)]) (N := N_law_grammar) (sc := defScope s_law_grammar) (by decide +kernel)) (fun _ _ _ _ _ => pg_name (i := 9) sc_law_grammar.nd rfl (Or.inl rfl)) (fun _ _ _ _ _ => (pts_one (PW.pt (pw_and (pt_cmpR (op_eqDK K hu64) (pe_ix (ix_seqK K) (pv 9) pe_int (fun _ _ => rfl)) (pv 7) (nomark _)) (pw_and1 (pt_cmpR (op_inK K) (pe_ix (ix_seqK K) (pv 9) pe_int (fun _ _ => rfl)) (pe_lst (pa_cons pe_str (pa_cons pe_str pa_nil))) (by rfl))))))) (fun _ _ _ _ _ => (pv 9))) (pe_lst pa_nil) (nomark _))))) (pss_one (ps_expr (pe_bm PySem.F.plainAttrs_list PySem.F.slot_list_append PySem.F.type_list_append mt_append (pv 5) (pa_cons (pe_tup (pa_cons (pv 7) (pa_cons (pe_callC C_law_pick (hr.mono (by decide)) rfl pass0 (pa_cons (pv 2) (pa_cons (pe_lst (pa_cons pe_str (pa_cons pe_str pa_nil))) pa_nil))) (pa_cons (pe_callC C_law_pick (hr.mono (by decide)) rfl pass0 (pa_cons (pv 2) (pa_cons (pv 4) pa_nil))) pa_nil)))) pa_nil)))) pss_nil)))) pss_nil)
      (Evl.pss_cut (ps_if (pt_cmpR (op_eqDK K hu64) (pv 5) (pe_lst pa_nil) (nomark _)) (pss_one (ps_set (i := 5) sc_law_grammar.nd rfl (Or.inl rfl) (pe_lst (pa_cons (pe_tup (pa_cons pe_int (pa_cons pe_str (pa_cons pe_str pa_nil)))) pa_nil)))) pss_nil)
      (pss_one (ps_ret (pe_tup (pa_cons (pv 3) (pa_cons (pe_callTy call_tuple_of (by rfl) T.m_tuple bt_tuple (pa_cons (pe_callC C_law_shuffled (hr.mono (by decide)) rfl pass0 (pa_cons (pv 2) (pa_cons (pv 5) pa_nil))) pa_nil)) pa_nil)))))))))))), ?_⟩
    refine ⟨.ref a, rfl, a, 0, ns, B, rfl, e, hS, hl, by decide, by decide, fun p B1 H1 hp s1 k1 => ?_⟩
    have a1 : At (Fm.box p) B1 H1 B1 H1 := At.start k1
    refine qv_asg (P := fun v _ => ∃ n : Nat, v = .int (n : Nat) ∧ 1 ≤ n ∧ n ≤ 8) a1 ((ev_pick (d := .list [.int 1, .int 2, .int 2, .int 3, .int 3, .int 4, .int 6, .int 8]) rfl (ed_lst (eds_cons ed_int (eds_cons ed_int (eds_cons ed_int (eds_cons ed_int (eds_cons ed_int (eds_cons ed_int (eds_cons ed_int (eds_cons ed_int eds_nil))))))))) (.inl rfl) (fun z => nomatch z) (by show 8 < 1073741824; decide)).imp fun v B1 _ ⟨x, hx, hv⟩ => by
      simp only [List.mem_cons, List.mem_nil_iff, or_false] at hx
      rcases hx with rfl | rfl | rfl | rfl | rfl | rfl | rfl | rfl
      · exact ⟨1, dd_int hv, by decide, by decide⟩
      · exact ⟨2, dd_int hv, by decide, by decide⟩
      · exact ⟨2, dd_int hv, by decide, by decide⟩
      · exact ⟨3, dd_int hv, by decide, by decide⟩
      · exact ⟨3, dd_int hv, by decide, by decide⟩
      · exact ⟨4, dd_int hv, by decide, by decide⟩
      · exact ⟨6, dd_int hv, by decide, by decide⟩
      · exact ⟨8, dd_int hv, by decide, by decide⟩) fun vn B2 H2 e2 a2 ⟨n, hn, n1, n8⟩ => ?_
    subst hn
    refine qv_asg (P := fun v B => ∃ ws : List Str, Dd K B v (.list (ws.map .str)) ∧ ws ≠ [] ∧ ws.length ≤ 3 ∧ ∀ u ∈ ws, u ∈ W4) a2 ((ev_pick (d := .list [.list ((["a"] : List Str).map .str), .list ((["a", "ab"] : List Str).map .str), .list ((["a", "ab", "b"] : List Str).map .str), .list ((["b", "aab"] : List Str).map .str)]) rfl (ed_lst (eds_cons (ed_lst (eds_cons ed_str eds_nil)) (eds_cons (ed_lst (eds_cons ed_str (eds_cons ed_str eds_nil))) (eds_cons (ed_lst (eds_cons ed_str (eds_cons ed_str (eds_cons ed_str eds_nil)))) (eds_cons (ed_lst (eds_cons ed_str (eds_cons ed_str eds_nil))) eds_nil))))) (.inl rfl) (fun z => nomatch z) (by show 4 < 1073741824; decide)).imp fun v B1 _ ⟨x, hx, hv⟩ => by
      simp only [List.mem_cons, List.mem_nil_iff, or_false] at hx
      rcases hx with rfl | rfl | rfl | rfl
      · exact ⟨_, hv, fun z => (nomatch z), by decide, by decide +kernel⟩
      · exact ⟨_, hv, fun z => (nomatch z), by decide, by decide +kernel⟩
      · exact ⟨_, hv, fun z => (nomatch z), by decide, by decide +kernel⟩
      · exact ⟨_, hv, fun z => (nomatch z), by decide, by decide +kernel⟩) fun vw B3 H3 e3 a3 ⟨ws, hw, hw0, hw3, hwm⟩ => ?_
    refine ⟨Nat.zero_le _, fun fa hfa => ?_⟩
    have k3 := a3.j
    have nfp : fa ≠ p := fun z => ((Fm.box p).lv H3 p k3.j rfl).ne (z ▸ hfa)
    have pickw : ∀ (σ : L2.St) B5, σ[2]? = some (some (V.ref p)) → σ[4]? = some (some vw) → Ex B3 B5 → EV (Fm.box p) (tCall (spPick K) [] E0 (tCons (tVar 2) (tCons (tVar 4) tNil))) σ B5 (fun v B => ∃ d, Dd K B v d ∧ ∃ u, d = .str u ∧ u ∈ W4) := fun σ B5 h2 h4 e5 => (ev_pick (d := .list (ws.map .str)) h2 (ed_var h4 (hw.up e5)) (.inl rfl) (fun z => hw0 (List.map_eq_nil_iff.mp z)) (by rw [List.length_map]; omega)).imp fun v B1 _ ⟨x, hx, hv⟩ => by
      obtain ⟨u, hu, rfl⟩ := List.mem_map.mp hx
      exact ⟨_, hv, u, rfl, hwm u hu⟩
    have takek : ∀ (σ : L2.St) B5, σ[2]? = some (some (V.ref p)) → σ[3]? = some (some (V.int (n : Nat))) → EV (Fm.box p) (tCall (spTake K) [] E0 (tCons (tVar 2) (tCons (tVar 3) tNil))) σ B5 (fun v B => ∃ d, Dd K B v d ∧ ∃ c : Int, d = .int c ∧ 0 ≤ c ∧ c < (n : Nat)) := fun σ B5 h2 h3 => (ev_take h2 (ed_var h3 (.int (n : Nat))) (by omega) (by omega)).imp fun v B1 _ ⟨c, hc, c0, c1⟩ => ⟨.int c, by rw [hc]; exact .int c, c, rfl, c0, c1⟩
    obtain ⟨B', acc, s', k', hb, hd, ha⟩ := cq_start (K := K) k3 hfa
    have evr : EV (Fm.box p) (tOp (rAddA K) (tC (.int 2)) (tCall (spTake K) [] E0 (tCons (tVar 2) (tCons (tOp (rI0 fun i j => .int (i - j)) (tVar 1) (tC (.int 1))) tNil)))) [some (.ref a), some (.int 9), some (.ref p), some (.int (n : Nat)), some vw, some (.ref fa), none, none, none, none] B' (fun v _ => ∃ m : Int, v = .int m ∧ 0 ≤ m ∧ m ≤ 9) := ev_op (P := DD K (.int 2)) (P' := fun v _ => ∃ m : Int, v = .int m ∧ 0 ≤ m ∧ m < 8) ed_int (ev_take (m := 8) rfl (ed_op (ed_var rfl (.int 9)) ed_int rd_sub) (by decide) (by decide)) upc_dd fun B6 _ H6 u v j6 hu ⟨m, hv, m0, m1⟩ Q q => .inl ⟨2, m, dd_int hu, hv, q _ B6 H6 (Step.refl j6.e) j6 ⟨2 + m, rfl, by omega, by omega⟩⟩
    refine evr B' (Ex.refl B') _ k' _ fun vm B4 H4 s4 k4 ⟨m, hm, m0, m9⟩ => ?_
    subst hm
    refine ⟨m, rfl, by omega, by omega, for_range (lo := 0) (n := m.toNat) (fun i σ' H' => (∃ o6 o7 o8 o9, σ' = [some (.ref a), some (.int 9), some (.ref p), some (.int (n : Nat)), some vw, some (.ref fa), o6, o7, o8, o9]) ∧ ∃ rs, rs.length ≤ i ∧ GR n rs ∧ Cq (Fm.box p) K B3 H3 fa rs H') ⟨⟨_, _, _, _, rfl⟩, [], Nat.le_refl _, ⟨by decide, fun r h => (nomatch h), backK_none fun k hk => ?_⟩, cq_pass hfa k3 s' hb hd ha s4 k4⟩ (fun i σ' H' hi ⟨⟨o6, o7, o8, o9, ho⟩, rs, hri, G, B', acc, s', k', hb, hd, ha⟩ => ?_) (fun σ' H' ⟨⟨o6, o7, o8, o9, ho⟩, rs, hri, G, c⟩ => ?_)⟩
    · cases hh : (Gm.turns (edges []) (k : Int) (n + 1)).contains (k : Int) with
      | false => rfl
      | true =>
        have h1 := Gm.turns_sound _ _ (List.contains_iff_mem.mp hh)
        cases h1 with
        | one e => cases e
        | more _ e => cases e
    · subst ho
      have hlt : rs.length < 9 := by omega
      obtain ⟨kx, dx⟩ := cq_open hfa k3 k' hb hd ha (by omega)
      have eB3 : Ex B3 (upd B' fa (.lst acc)) := s'.bb.trans (Ex.new hb)
      have aX : At (Fm.box p) (upd B' fa (.lst acc)) H' (upd B' fa (.lst acc)) H' := At.start kx
      refine qv_asg aX (takek _ _ rfl rfl) fun vk B5 H5 e5 a5 hh5 => ?_
      obtain ⟨_, hk, k, rfl, k0, k1'⟩ := hh5
      obtain rfl := dd_int hk
      refine qv_asg (P := fun v _ => ∃ wd : Str, v = .str wd ∧ wd ∈ L8) a5 ((ev_pick (d := .list ((["left", "right", "wrap", "wrap", "ahead", "behind", "left", "right", "same", "first", "last"] : List Str).map .str)) rfl (ed_lst (eds_cons ed_str (eds_cons ed_str (eds_cons ed_str (eds_cons ed_str (eds_cons ed_str (eds_cons ed_str (eds_cons ed_str (eds_cons ed_str (eds_cons ed_str (eds_cons ed_str (eds_cons ed_str eds_nil)))))))))))) (.inl rfl) (fun z => nomatch z) (by show 11 < 1073741824; decide)).imp fun v B1 _ ⟨x, hx, hv⟩ => by
        obtain ⟨u, hu, rfl⟩ := List.mem_map.mp hx
        exact ⟨u, (dd_str hv).1, (by decide +kernel : ∀ u ∈ (["left", "right", "wrap", "wrap", "ahead", "behind", "left", "right", "same", "first", "last"] : List Str), u ∈ L8) u hu⟩) fun vwd B6 H6 e6 a6 ⟨wd, hwd, h8⟩ => ?_
      subst hwd
      have l8 := l8_ok wd h8
      have wl : wd.length ≤ sizeLine := by rw [sizeLine_eq]; have := l8.2.1; omega
      have edk : ∀ (σ : L2.St) B7, σ[7]? = some (some (V.int k)) → EV (Fm.box p) (tVar 7) σ B7 (fun v B => ∃ d, Dd K B v d ∧ d = .int k) := fun σ B7 h7 => ev_any (ed_var h7 (.int k))
      have edw : ∀ (σ : L2.St) B7, σ[8]? = some (some (V.str wd)) → EV (Fm.box p) (tVar 8) σ B7 (fun v B => ∃ d, Dd K B v d ∧ d = .str wd) := fun σ B7 h7 => ev_any (ed_var h7 (.str wd wl))
      refine qv_asg a6 (ev_tup3 (edk _ _ rfl) (edw _ _ rfl) (takek _ _ rfl rfl)) fun vr B7 H7 e7 a7 hh7 => ?_
      obtain ⟨_, _, _, hvr, rfl, rfl, c, rfl, c0, c1⟩ := hh7
      refine ⟨fun σ' H'' => ∃ B8 r vr, σ' = [some (.ref a), some (.int 9), some (.ref p), some (.int (n : Nat)), some vw, some (.ref fa), some (.int (0 + (i : Nat))), some (.int k), some (.str wd), some vr] ∧ At (Fm.box p) (upd B' fa (.lst acc)) H' B8 H'' ∧ Dd K B8 vr r ∧ RG n r, ?_, ?_⟩
      · refine sv_if (b := inS wd WSH) a7 (et_cmp (inSL (ed_var rfl (.str wd wl)) pyStr2)) (fun hb1 B8 H8 e8 a8 => ?_) (fun hb1 B8 H8 e8 a8 => ?_)
        · refine sv_asg a8 (ev_tup3 (edk _ _ rfl) (edw _ _ rfl) (pickw _ _ rfl rfl ((((eB3.trans e5).trans e6).trans e7).trans e8))) fun vr2 B9 H9 e9 a9 hh9 => ?_
          obtain ⟨_, _, _, hvr2, rfl, rfl, u, rfl, hu⟩ := hh9
          exact ⟨B9, _, vr2, rfl, a9, hvr2, rg_word n8 k0 k1' (inS_iff.mp hb1) h8 hu⟩
        · refine sv_if (b := inS wd TSH) a8 (et_cmp (inSL (ed_var rfl (.str wd wl)) pyStr)) (fun hb2 B9 H9 e9 a9 => ?_) (fun hb2 B9 H9 e9 a9 => ?_)
          · refine sv_asg (P := fun v B => ∃ d : Int, Dd K B v (.tuple [.int k, .str wd, .int c, .int d]) ∧ 0 ≤ d ∧ d < (n : Nat)) a9 (ev_op (P := DD K (.tuple [.int k, .str wd, .int c])) (ed_var rfl ((hvr.up e8).up e9)) (ev_tup1 (takek _ _ rfl rfl)) upc_dd ?_) fun vr2 B10 H10 e10 a10 ⟨d, hvr2, d0, d1⟩ => ?_
            · intro B10 e10 H10 u w10 j10 hu hhx Q q
              obtain ⟨_, hx, d, rfl, d0, d1⟩ := hhx
              exact rd_addT (F := Fm.box p) (K := K) (B := B10) (by show 4 ≤ 16777216; decide) B10 (Ex.refl B10) H10 u w10 j10 hu hx Q fun z B11 H11 s11 j11 g11 => q z B11 H11 s11 j11 ⟨d, g11, d0, d1⟩
            · exact ⟨B10, _, vr2, rfl, a10, hvr2, rg_two n8 k0 k1' (inS_iff.mp hb2) h8 c0 c1 d0 d1⟩
          · refine ⟨B9, _, vr, rfl, a9, (hvr.up e8).up e9, rg_one n8 k0 k1' ?_ h8 c0 c1⟩
            rcases l8.2.2.1 with h | h | h
            · rw [inS_iff.mpr h] at hb1
              cases hb1
            · rw [inS_iff.mpr h] at hb2
              cases hb2
            · exact h
      · rintro σ' H'' ⟨B8, r, vr, rfl, a8, hr8, hRG⟩
        have hall : ∀ x ∈ rs ++ [r], ruleD x n = true := fun x hx => by
          rcases List.mem_append.mp hx with h | h
          · exact G.ruleD x h
          · rw [List.mem_singleton.mp h]
            exact hRG.1
        have hlen : (rs ++ [r]).length ≤ 100 := by rw [List.length_append]; show rs.length + 1 ≤ 100; omega
        refine sv_if (b := isNon (optD (backK (edges (rs ++ [r])) n))) a8 (et_cmp (ed_op (ed_F (eds_cons (ed_F (z := .list ((edges (rs ++ [r])).map toD)) (eds_cons (ed_op (ed_var rfl (dx.up a8.st.bb)) (ed_lst (eds_cons (ed_var rfl hr8) eds_nil)) (rd_addL (by show rs.length + 1 ≤ 16777216; omega))) eds_nil) ⟨_, rs ++ [r], n, rfl, .inl rfl, hlen, hall⟩ rfl) (eds_cons (ed_var rfl (.int (n : Nat))) eds_nil)) ⟨edges (rs ++ [r]), n, rfl, Nat.le_trans (edges_len _) hlen, by omega⟩ (by show optD (backK (((edges (rs ++ [r])).map toD).map ofD) ((n : Int)).toNat) = _; rw [ofD_toD]; rfl)) ed_non rd_isN)) (fun hbn B9 H9 e9 a9 => ?_) (fun hbn B9 H9 e9 a9 => ?_)
        · obtain ⟨s10, k10, e10, hd10⟩ := cq_close hfa k3 s' hb hd a9.st a9.j
          obtain ⟨xs, rfl, hfl⟩ := hRG.flat
          have hB9 : B9 fa = some (.lst acc) := a9.st.bb _ _ upd_same
          refine ⟨.ref fa, rfl, .inl ⟨rfl, _, sq_of hd10⟩, vr, rfl, fa, acc, vr, rfl, rfl, hd10, by rw [ha.len, sizeLine_eq]; omega, ?_⟩
          refine ⟨⟨_, _, _, _, rfl⟩, rs ++ [.tuple xs], by rw [List.length_append]; show rs.length + 1 ≤ i + 1; omega, G.snoc1 hlt hRG ?_, cq_set hfa k3 s10 k10 del1_same ((ha.up e10).snoc (tup_del (hr8.up e9) hB9 hfl))⟩
          cases hh : backK (edges (rs ++ [.tuple xs])) n with
          | none => rfl
          | some b => rw [hh] at hbn; cases hbn
        · obtain ⟨s10, k10, e10, hd10⟩ := cq_close hfa k3 s' hb hd a9.st a9.j
          exact ⟨⟨_, _, _, _, rfl⟩, rs, by omega, G, _, acc, s10, k10, del1_same, hd10, ha.up e10⟩
    subst ho
    refine ⟨fun σ' H'' => (∃ o6 o7 o8 o9, σ' = [some (.ref a), some (.int 9), some (.ref p), some (.int (n : Nat)), some vw, some (.ref fa), o6, o7, o8, o9]) ∧ ∃ rs, GR n rs ∧ Cq (Fm.box p) K B3 H3 fa rs H'', ?_, ?_⟩
    · obtain ⟨B', acc, s', k', hb, hd, ha⟩ := c
      refine sv_ifB (At.start k') (eb_cmp (P := fun v _ => ∃ b, v = .bl b) (ev_op (P' := DD K (.int 0)) (ev_take (m := 6) rfl ed_int (by decide) (by decide)) ed_int (fun _ _ _ _ h => h) ?_) fun v B h => h) (fun _ B5 H5 e5 a5 => ?_) (fun B5 H5 e5 a5 => ?_)
      · intro B6 _ H6 u v j6 ⟨k, hu, _⟩ hv Q q
        exact ⟨k, 0, hu, dd_int hv, q _ B6 H6 (Step.refl j6.e) j6 ⟨_, rfl⟩⟩
      · refine ⟨.int (n : Nat), rfl, (n : Nat), rfl, by omega, by omega, for_range (lo := 0) (n := ((n : Nat) : Int).toNat) (fun i σ' H' => (∃ o6 o7 o8 o9, σ' = [some (.ref a), some (.int 9), some (.ref p), some (.int (n : Nat)), some vw, some (.ref fa), o6, o7, o8, o9]) ∧ ∃ rs, GR n rs ∧ Cq (Fm.box p) K B3 H3 fa rs H') ⟨⟨_, _, _, _, rfl⟩, rs, G, cq_pass hfa k3 s' hb hd ha a5.st a5.j⟩ (fun i σ' H' hi ⟨⟨o6, o7, o8, o9, ho⟩, rs, G, B', acc, s', k', hb, hd, ha⟩ => ?_) (fun σ' H' ⟨⟨o6, o7, o8, o9, ho⟩, rs, G, c⟩ => ⟨⟨o6, o7, o8, o9, ho⟩, rs, G, c⟩)⟩
        subst ho
        have hlen9 := G.len
        have hi' : i < n := by omega
        obtain ⟨kx, dx⟩ := cq_open hfa k3 k' hb hd ha (by omega)
        have eB3 : Ex B3 (upd B' fa (.lst acc)) := s'.bb.trans (Ex.new hb)
        have aX : At (Fm.box p) (upd B' fa (.lst acc)) H' (upd B' fa (.lst acc)) H' := At.start kx
        refine sv_if (b := decide (((rs.length : Nat) : Int) < 9) && PyData.eqv (.list ((rs.filter (pK (0 + (i : Nat)))).map fun d => d)) (.list [])) aX (et_and (et_cmp (K := K) (ed_op (ev_cb (eds_cons (ed_var rfl dx) eds_nil) (rc_len (x := .list rs) rfl)) (ed_var rfl (.int 9)) rd_lt)) fun _ => et_cmp (ed_op (ed_lcD (pK (0 + (i : Nat))) (fun d => d) (ev_seqL (ed_var rfl dx)) (by omega) (fun _ => rfl) (fun d v B5 hm _ hdv => ?_) (fun d v B5 _ _ _ hdv => ed_var rfl hdv)) (ed_lst eds_nil) (rd_eqD (Sm.sh (sm_filter (n := 2) fun d hd => smD_sm 1 d (G.ok d hd).2)) rfl))) (fun hbt B6 H6 e6 a6 => ?_) (fun hbt B6 H6 e6 a6 => ?_)
        · obtain ⟨x, sh, p0, ps, rfl, _⟩ := ruleD_is (G.ruleD d hm)
          exact et_and (et_cmp (K := K) (ed_op (ed_op (ed_var rfl hdv) ed_int (rd_ixT at3_0)) (ed_var rfl (.int _)) (rd_eqD rfl rfl))) fun _ => et_cmp (inSL (ed_op (ed_var rfl hdv) ed_int (rd_ixT at3_1)) pyStr2)
        · rw [Bool.and_eq_true, decide_eq_true_eq] at hbt
          have hlt : rs.length < 9 := by omega
          have hd6 : H6 fa = some (.lst acc) := a6.st.keep fa _ nfp hd
          refine ⟨.ref fa, rfl, .inl ⟨rfl, _, sq_of hd6⟩, ?_⟩
          have evt : EV (Fm.box p) (tTup (tCons (tVar 7) (tCons (tCall (spPick K) [] E0 (tCons (tVar 2) (tCons (tLst (tCons (tC (.str "left")) (tCons (tC (.str "right")) tNil))) tNil))) (tCons (tCall (spPick K) [] E0 (tCons (tVar 2) (tCons (tVar 4) tNil))) tNil)))) [some (.ref a), some (.int 9), some (.ref p), some (.int (n : Nat)), some vw, some (.ref fa), o6, some (.int (0 + (i : Nat))), o8, o9] B6 (fun v B => ∃ x y z, Dd K B v (.tuple [x, y, z]) ∧ x = .int (0 + (i : Nat)) ∧ (∃ wd, y = .str wd ∧ wd ∈ WSH) ∧ ∃ u, z = .str u ∧ u ∈ W4) :=
            ev_tup3 (ev_any (ed_var rfl (.int _))) ((ev_pick (d := .list (WSH.map .str)) rfl pyStr2 (.inl rfl) (fun z => nomatch z) (by show 2 < 1073741824; decide)).imp fun v B1 _ ⟨x, hx, hv⟩ => by
              obtain ⟨u, hu, rfl⟩ := List.mem_map.mp hx
              exact ⟨_, hv, u, rfl, hu⟩) (pickw _ _ rfl rfl (eB3.trans e6))
          refine evt B6 (Ex.refl B6) H6 a6.j _ fun vr B7 H7 s7 k7 hh8 => ?_
          obtain ⟨_, _, _, hvr, rfl, ⟨wd, rfl, hwd⟩, u, rfl, hu⟩ := hh8
          have a7 := a6.next s7 k7
          obtain ⟨s10, k10, e10, hd10⟩ := cq_close hfa k3 s' hb hd a7.st a7.j
          have h8 : wd ∈ L8 := (by decide +kernel : ∀ u ∈ WSH, u ∈ L8) wd hwd
          have hRG : RG n (.tuple [.int (0 + (i : Nat)), .str wd, .str u]) := rg_word n8 (by omega) (by omega) hwd h8 hu
          have hno : isOne (.tuple [.int (0 + (i : Nat)), .str wd, .str u]) = false := (by decide +kernel : ∀ u ∈ WSH, inS u OSH = false) wd hwd
          have hB7 : B7 fa = some (.lst acc) := a7.st.bb _ _ upd_same
          refine ⟨fa, acc, vr, rfl, rfl, hd10, by rw [ha.len, sizeLine_eq]; omega, ?_⟩
          exact ⟨⟨_, _, _, _, rfl⟩, _, G.snoc0 hlt hRG hno, cq_set hfa k3 s10 k10 del1_same ((ha.up e10).snoc (tup_del hvr hB7 rfl))⟩
        · obtain ⟨s10, k10, e10, hd10⟩ := cq_close hfa k3 s' hb hd a6.st a6.j
          exact ⟨⟨_, _, _, _, rfl⟩, rs, G, _, acc, s10, k10, del1_same, hd10, ha.up e10⟩
      · exact ⟨⟨_, _, _, _, rfl⟩, rs, G, cq_pass hfa k3 s' hb hd ha a5.st a5.j⟩
    rintro σ' H5 ⟨⟨o6, o7, o8, o9, rfl⟩, rs, G, c⟩
    have hlen9 := G.len
    obtain ⟨B5, s5, k5, g5⟩ := cq_done k3 hfa (by omega) c
    have a5 : At (Fm.box p) B1 H1 B5 H5 := a3.next s5 k5
    refine ⟨fun σ' H'' => ∃ B6 vl rs, σ' = [some (.ref a), some (.int 9), some (.ref p), some (.int (n : Nat)), some vw, some vl, o6, o7, o8, o9] ∧ At (Fm.box p) B1 H1 B6 H'' ∧ Dd K B6 vl (.list rs) ∧ rs ≠ [] ∧ GR n rs, ?_, ?_⟩
    · refine sv_if (b := PyData.eqv (.list rs) (.list [])) a5 (et_cmp (ed_op (ed_var rfl g5) (ed_lst eds_nil) (rd_eqD (Sm.sh (sm_lst (n := 2) fun d hd => smD_sm 1 d (G.ok d hd).2)) rfl))) (fun hbt B6 H6 e6 a6 => ?_) (fun hbt B6 H6 e6 a6 => ?_)
      · refine sv_asg (P := DD K (.list [.tuple [.int 0, .str "left", .str "a"]])) a6 (ed_lst (eds_cons (ed_tup (eds_cons ed_int (eds_cons ed_str (eds_cons ed_str eds_nil)))) eds_nil)) fun vl B7 H7 e7 a7 h7 => ?_
        refine ⟨B7, vl, _, rfl, a7, h7, fun z => (nomatch z), ⟨by decide, fun r hr => ?_, ?_⟩⟩
        · rw [List.mem_singleton.mp hr]
          exact rg_word n8 (by decide) (by omega) (by decide +kernel) (by decide +kernel) (by decide +kernel)
        · have hrs : rs = [] := by
            rw [eqv_nil] at hbt
            exact List.isEmpty_iff.mp hbt
          rw [hrs] at G
          exact G.bk
      · refine ⟨B6, _, rs, rfl, a6, g5.up e6, fun z => ?_, G⟩
        rw [eqv_nil, z] at hbt
        cases hbt
    · rintro σ' H6 ⟨B6, vl, rs, rfl, a6, g6, hne, G6⟩
      refine sv_ret (P := fun v B => ∃ rs', Dd K B v (.tuple [.int (n : Nat), .tuple rs']) ∧ rs' ≠ [] ∧ GR n rs') a6 ?_ fun v B7 H7 e7 a7 ⟨rs', h7, hne', G7⟩ => q v B7 H7 n rs' (step_box hp s1 a7.st) h7 n1 n8 hne' G7
      intro B7 e7 H7 k7 Q7 q7
      refine ⟨.int (n : Nat), rfl, .ref p, rfl, vl, rfl, p, vl, B7, rs, rfl, k7, g6.up e7, by have := G6.len; omega, fun v8 B8 H8 rs8 s8 k8 h8 hp8 => ?_⟩
      obtain ⟨l, ys, rfl, g1, g2, g3⟩ := dd_lst h8
      refine ⟨l, ys, rfl, .inl ⟨sq_of (k8.e _ _ g1), fun t ht => ?_⟩⟩
      refine ⟨by show 2 ≤ sizeLine; decide, fun u hu => ?_⟩
      have s9 : Step (fun a => a = p) B8 H8 _ _ := Step.alloc (o := .tup ys) k8.e ht
      have k9 := k8.alloc (o := .tup ys) ht
      have bt : B8 t = none := fresh_back k8.e ht
      have bu := fresh_back k9.e hu
      refine q7 (.ref u) _ _ ((s8.trans s9).trans (Step.alloc k9.e hu)) (k9.alloc hu) ⟨rs8, .tup (ta_of upd_same) (by show 2 ≤ sizeLine; decide) (.cons (.int _) (.cons (Dd.up (.tup (ta_of upd_same) g2 (g3.up (Ex.new bt))) (Ex.new bu)) .nil)), fun z => ?_, G6.perm hp8⟩
      rw [z] at hp8
      exact hne (List.Perm.nil_eq hp8).symm
end
end K12

namespace K12
open PySem PySem.Spec PyProof.Rows L2 Evl Ex Dx
open PySem.PyData (strOk)
section
variable {P : Program} {w : World} {K : PySem.W.Frag} {mg : Str → Option Value} {base : Heap} {f : Addr} {fd : FuncData}

def textD (d : PyData) (m : Int) : Bool := match d with
  | .tuple ds => decide (((ds.length : Nat) : Int) ≤ m) && ds.all wordD
  | _ => false
theorem textD_tup (ds : List PyData) (m : Int) : textD (.tuple ds) m = (decide (((ds.length : Nat) : Int) ≤ m) && ds.all wordD) := rfl
def fText : List PyData → PyData
  | [d, .int m] => .bool (textD d m)
  | _ => .none

abbrev s_is_text : Stmt := topS 6
abbrev N_is_text : List Str := ["value", "most", "word"]
theorem sc_is_text : FnScope N_is_text ["value", "most"] (defScope s_is_text) := ⟨rfl, rfl, rfl, by decide +kernel, rfl, by decide +kernel, by decide +kernel⟩
theorem ok_is_text (F : Fun K "is_text" "is_text" s_is_text f fd) (T : TC K mg) (C_is_word : Callee P w K mg base "is_word" 1 ["value"] (spF K pre1 fWord)) : FnOk P w K mg base CX0 2 f fd ["value", "most"] (spF K (fun ds => ∃ d m, ds = [d, .int m]) fText) := by
  refine F.ok sc_is_text (fun vs H Q E h => ?_) (fun cdv A outer s H vs Q E hr h => ?_)
  · obtain ⟨B, ds, e, hd, ⟨d, m, rfl⟩, q⟩ := h
    exact hd.len
  · obtain ⟨B, ds, e, hd, ⟨d, m, rfl⟩, q⟩ := h
    obtain ⟨v, v2, rfl, hv, hm⟩ := arg2 hd
    obtain rfl := dd_int hm
    refine ⟨_, (pss_cons (ps_if (PW.pt (pw_or (pt_not (pt_val (pe_callB (call_isiK1 K) (by rfl) T.m_isinstance bt_isinstance (pa_cons (pv 0) (pa_cons (pe_bltn (v := .ty "tuple") (by rfl) T.m_tuple bt_tuple rfl) pa_nil))))) (pw_or1 (pt_cmpR op_gt (pe_callB (call_lenK K) (by rfl) T.m_len bt_len (pa_cons (pv 0) pa_nil)) (pv 1) (nomark _))))) (pss_one (ps_ret pe_bl)) pss_nil)
      (pss_one (ps_ret (pe_callB (cr_allK K) (by rfl) T.m_all bt_all (pa_cons (pe_lc (own := [("word", 2)]) rfl sc_is_text.nd (pi_seqK K (pv 0)) (blkOk_by (own := [("word", 2)]) (N := N_is_text) (sc := defScope s_is_text) (by decide +kernel)) (fun _ _ _ _ _ => pg_name (i := 2) sc_is_text.nd rfl (Or.inl rfl)) (fun _ _ _ _ _ => pts_nil) (fun _ _ _ _ _ => (pe_callC C_is_word (hr.mono (by decide)) rfl pass0 (pa_cons (pv 2) pa_nil)))) pa_nil))))), ?_⟩
    have a : At Fm.pure B H B H := At.start (Ok.any e)
    have fin : ∀ b B1 H1, At Fm.pure B H B1 H1 → b = textD d m → Q (.bl b) H1 := fun b B1 H1 a1 eb => by
      refine q _ B1 H1 a1.st ?_
      show Dd K B1 (.bl b) (.bool (textD d m))
      rw [eb]
      exact .bl _

    by_cases hs : isTupD d = true
    · obtain ⟨x, rfl⟩ := tup_is hs
      have hz : x.length ≤ 16777216 := by
        obtain ⟨p, us, _, _, l1, g1⟩ := dd_tup hv
        rw [← g1.len, ← sizeLine_eq]
        exact l1
      refine qv_when (b := decide (m < (x.length : Nat))) a (et_is (et_or (b := false) (et_not (et_val (ed_isi (ed_var rfl hv) (kit_tup _)))) fun _ => et_cmp (K := K) (ed_op (ev_cb (eds_cons (ed_var rfl hv) eds_nil) (rc_len rfl)) (ed_var rfl (.int m)) rd_gt)) (by rfl)) (fun hb B1 H1 e1 a1 => ?_) (fun hb B1 H1 e1 a1 => ?_)
      · refine sv_ret (P := DD K (.bool false)) a1 ed_bl fun v1 B2 H2 e2 a2 h2 => ?_
        obtain rfl := dd_bl h2
        refine fin _ B2 H2 a2 ?_
        have hb' : m < (x.length : Nat) := of_decide_eq_true hb
        rw [textD_tup, decide_eq_false (by omega)]
        rfl
      · have hb' : ¬ m < (x.length : Nat) := of_decide_eq_false hb
        refine sv_ret (P := DD K (.bool (textD (.tuple x) m))) a1 (ed_is (ev_cb (eds_cons (ed_is (ed_lcD (fun _ => true) (fun d => .bool (wordD d)) (ev_seqT (ed_var rfl (hv.up e1))) hz (fun _ => rfl) (fun d v B2 _ _ _ => et_yes) (fun d v B2 _ _ _ hdv => ed_F (eds_cons (ed_var rfl hdv) eds_nil) ⟨_, rfl⟩ rfl)) (by rw [mapb])) eds_nil) rc_all) ?_) fun v1 B2 H2 e2 a2 h2 => ?_
        · rw [textD_tup, decide_eq_true (by omega), all_id]
          rfl
        · obtain rfl := dd_bl h2
          exact fin _ B2 H2 a2 rfl
    · have hs' : isTupD d = false := by simpa using hs
      refine qv_when (b := true) a (et_is (et_or (b := !isTupD d) (c := true) (et_not (et_val (ed_isi (ed_var rfl hv) (kit_tup _)))) fun h => by rw [hs'] at h; cases h) (by rw [hs']; rfl)) (fun hb B1 H1 e1 a1 => ?_) (fun h => nomatch h)
      refine sv_ret (P := DD K (.bool false)) a1 ed_bl fun v1 B2 H2 e2 a2 h2 => ?_
      obtain rfl := dd_bl h2
      refine fin _ B2 H2 a2 ?_
      cases d <;> first | rfl | cases hs' 


/-! ### is_item -/
def numI : PyData → Int
  | .int n => n
  | _ => 0
/-- integers, none less than the one before, up to w -/
def upD (w : Int) : Int → List PyData → Bool
  | _, [] => true
  | low, d :: ds => inB d low w && upD w (numI d) ds
def itemD (d : PyData) (n w : Int) : Bool := match d with
  | .tuple (x :: ds) => decide (ds.length = 4) && (inB x 0 (n - 1) && upD w 0 ds)
  | _ => false
def fItem : List PyData → PyData
  | [d, .int n, .int w] => .bool (itemD d n w)
  | _ => .none
theorem cut1n {x : PyData} {l : List PyData} : cutL (x :: l) (some 1) none = l := by
  unfold cutL HT.sIx
  simp
theorem eqv_len (n : Nat) (k : Int) : PyData.eqv (.int (n : Nat)) (.int k) = decide (((n : Nat) : Int) = k) := by
  rw [eqv_int, Bool.eq_iff_iff, beq_iff_eq, decide_eq_true_eq]
abbrev s_is_item : Stmt := topS 28
abbrev N_is_item : List Str := ["value", "kinds", "words", "low", "place"]
theorem sc_is_item : FnScope N_is_item ["value", "kinds", "words"] (defScope s_is_item) := ⟨rfl, rfl, rfl, by decide +kernel, rfl, by decide +kernel, by decide +kernel⟩
theorem ok_is_item (F : Fun K "is_item" "is_item" s_is_item f fd) (T : TC K mg) (C_is_between : Callee P w K mg base "is_between" 2 ["value", "low", "high"] (spBetween K)) : FnOk P w K mg base CX0 3 f fd ["value", "kinds", "words"] (spF K (fun ds => ∃ d n m, ds = [d, .int n, .int m]) fItem) := by
  refine F.ok sc_is_item (fun vs H Q E h => ?_) (fun cdv A outer s H vs Q E hr h => ?_)
  · obtain ⟨B, ds, e, hd, ⟨d, n, m, rfl⟩, q⟩ := h
    exact hd.len
  · obtain ⟨B, ds, e, hd, ⟨d, n, m, rfl⟩, q⟩ := h
    have hu64 : (A.deeper (envOfC "is_item" (defScope s_is_item) s.heap.objs.size f cdv)).units + 64 < cLine := hr.units
    obtain ⟨v, v2, v3, rfl, hv, hn, hm⟩ := arg3 hd
    obtain rfl := dd_int hn
    obtain rfl := dd_int hm
    refine ⟨_, (pss_cons (ps_if (PW.pt (pw_or (pt_not (pt_val (pe_callB (call_isiK1 K) (by rfl) T.m_isinstance bt_isinstance (pa_cons (pv 0) (pa_cons (pe_bltn (v := .ty "tuple") (by rfl) T.m_tuple bt_tuple rfl) pa_nil))))) (pw_or (pt_cmpR (op_neDK K hu64) (pe_callB (call_lenK K) (by rfl) T.m_len bt_len (pa_cons (pv 0) pa_nil)) pe_int (nomark _)) (pw_or1 (pt_not (pt_val (pe_callC C_is_between (hr.mono (by decide)) rfl pass0 (pa_cons (pe_ix (ix_seqK K) (pv 0) pe_int (fun _ _ => rfl)) (pa_cons pe_int (pa_cons (pe_op op_sub (pv 1) pe_int) pa_nil)))))))))) (pss_one (ps_ret pe_bl)) pss_nil)
      (pss_cons (ps_set (i := 3) sc_is_item.nd rfl (Or.inl rfl) pe_int)
      (pss_cons (ps_for PassesOwn.never rfl (pi_seqK K (pe_slice (sl_anyK K) (pv 0) (po_some pe_int) po_none)) (pg_name (i := 4) sc_is_item.nd rfl (Or.inl rfl)) (pss_cons (ps_if (pt_not (pt_val (pe_callC C_is_between (hr.mono (by decide)) rfl pass0 (pa_cons (pv 4) (pa_cons (pv 3) (pa_cons (pv 2) pa_nil)))))) (pss_one (ps_ret pe_bl)) pss_nil)
      (pss_one (ps_set (i := 3) sc_is_item.nd rfl (Or.inl rfl) (pv 4)))))
      (pss_one (ps_ret pe_bl))))), ?_⟩
    have a : At Fm.pure B H B H := At.start (Ok.any e)
    have fin : ∀ b B1 H1, At Fm.pure B H B1 H1 → b = itemD d n m → Q (.bl b) H1 := fun b B1 H1 a1 eb => by
      refine q _ B1 H1 a1.st ?_
      show Dd K B1 (.bl b) (.bool (itemD d n m))
      rw [eb]
      exact .bl _
    by_cases hs : isTupD d = true
    · obtain ⟨xs, rfl⟩ := tup_is hs
      have hz : xs.length ≤ 16777216 := by
        obtain ⟨p, us, _, _, l1, g1⟩ := dd_tup hv
        rw [← g1.len, ← sizeLine_eq]
        exact l1
      by_cases h5 : xs.length = 5
      · cases xs with
        | nil => cases h5
        | cons x ds =>
        have h4 : ds.length = 4 := by
          rw [List.length_cons] at h5
          omega
        have id4 : itemD (.tuple (x :: ds)) n m = (inB x 0 (n - 1) && upD m 0 ds) := by
          show (decide (ds.length = 4) && (inB x 0 (n - 1) && upD m 0 ds)) = _
          rw [decide_eq_true h4]
          rfl
        refine qv_when (b := !inB x 0 (n - 1)) a (et_is (et_or (b := false) (et_not (et_val (ed_isi (ed_var rfl hv) (kit_tup _)))) fun _ => et_or (b := false) (et_is (et_cmp (ed_op (ev_cb (eds_cons (ed_var rfl hv) eds_nil) (rc_len rfl)) ed_int (rd_neD rfl rfl))) (by show (!PyData.eqv (.int (((x :: ds).length : Nat) : Int)) (.int 5)) = false; rw [h5]; rfl)) fun _ => et_not (et_val (ed_F (eds_cons (ed_op (ed_var rfl hv) ed_int (rd_ixT (atI_nat (j := 0) rfl))) (eds_cons ed_int (eds_cons (ed_op (ed_var rfl (.int n)) ed_int rd_sub) eds_nil))) ⟨_, _, _, rfl⟩ rfl))) (by rfl)) (fun hb B1 H1 e1 a1 => ?_) (fun hb B1 H1 e1 a1 => ?_)
        · refine sv_ret (P := DD K (.bool false)) a1 ed_bl fun v1 B2 H2 e2 a2 h2 => ?_
          obtain rfl := dd_bl h2
          refine fin _ B2 H2 a2 ?_
          rw [id4, show inB x 0 (n - 1) = false by simpa using hb]
          rfl
        have hx : inB x 0 (n - 1) = true := by simpa using hb
        refine qv_asg (P := DD K (.int 0)) a1 ed_int fun v1 B2 H2 e2 a2 h2 => ?_
        obtain rfl := dd_int h2
        refine qd_for (ds := ds) a2 (ev_seqT (ed_is (ed_slT (K := K) (ed_var rfl (hv.up (e1.trans e2))) (eo_some (K := K) ed_int) eo_none) (by rw [cut1n]))) (fun i σ' B' => Ex B B' ∧ ∃ (o : Option V) (low : Int), σ' = [some v, some (.int n), some (.int m), some (.int low), o] ∧ upD m 0 ds = upD m low (ds.drop i)) (fun B3 e3 => ⟨(e1.trans e2).trans e3, _, _, rfl, rfl⟩) (fun Bb i u d σ' B3 H3 e0 hd hdv e3 a3 hi => ?_) (fun σ' B3 H3 e3 a3 hi => ?_)
        · obtain ⟨eB, o, low, rfl, hup⟩ := hi
          have hlt : i < ds.length := (List.getElem?_eq_some_iff.mp hd).1
          have hdr : ds.drop i = d :: ds.drop (i + 1) := by
            rw [List.drop_eq_getElem_cons hlt, (List.getElem?_eq_some_iff.mp hd).2]
          rw [hdr] at hup
          refine qv_when (b := !inB d low m) a3 (et_not (et_val (ed_F (eds_cons (ed_var rfl hdv) (eds_cons (ed_var rfl (.int low)) (eds_cons (ed_var rfl (.int m)) eds_nil))) ⟨_, _, _, rfl⟩ rfl))) (fun hb3 B4 H4 e4 a4 => ?_) (fun hb3 B4 H4 e4 a4 => ?_)
          · refine sv_ret (P := DD K (.bool false)) a4 ed_bl fun v1 B5 H5 e5 a5 h6 => ?_
            obtain rfl := dd_bl h6
            refine fin _ B5 H5 a5 ?_
            rw [id4, hx, hup]
            show false = (true && (inB d low m && upD m (numI d) (ds.drop (i + 1))))
            rw [show inB d low m = false by simpa using hb3]
            rfl
          · have hin : inB d low m = true := by simpa using hb3
            obtain ⟨k, rfl, k0, k1⟩ := inB_is hin
            refine sv_asg (P := DD K (.int k)) a4 (ed_var rfl (hdv.up e4)) fun v1 B5 H5 e5 a5 h6 => ?_
            obtain rfl := dd_int h6
            refine ⟨B5, (e3.trans e4).trans e5, a5, (eB.trans e4).trans e5, _, k, rfl, ?_⟩
            rw [hup]
            show (inB (.int k) low m && upD m k (ds.drop (i + 1))) = _
            rw [hin]
            rfl
        · obtain ⟨eB, o, low, rfl, hup⟩ := hi
          refine sv_ret (P := DD K (.bool true)) a3 ed_bl fun v1 B5 H5 e5 a5 h6 => ?_
          obtain rfl := dd_bl h6
          refine fin _ B5 H5 a5 ?_
          rw [id4, hx, hup, List.drop_length]
          rfl
      · refine qv_when (b := true) a (et_is (et_or (b := false) (c := true) (et_not (et_val (ed_isi (ed_var rfl hv) (kit_tup _)))) fun _ => et_is (et_or (b := true) (c := true) (et_is (et_cmp (ed_op (ev_cb (eds_cons (ed_var rfl hv) eds_nil) (rc_len rfl)) ed_int (rd_neD rfl rfl))) (by show (!PyData.eqv (.int ((xs.length : Nat) : Int)) (.int 5)) = true; rw [eqv_len, decide_eq_false (by omega)]; rfl)) fun z => nomatch z) rfl) rfl) (fun hb B1 H1 e1 a1 => ?_) (fun h => nomatch h)
        refine sv_ret (P := DD K (.bool false)) a1 ed_bl fun v1 B2 H2 e2 a2 h2 => ?_
        obtain rfl := dd_bl h2
        refine fin _ B2 H2 a2 ?_
        cases xs with
        | nil => rfl
        | cons x ds =>
          show false = (decide (ds.length = 4) && (inB x 0 (n - 1) && upD m 0 ds))
          rw [decide_eq_false (by rw [List.length_cons] at h5; omega)]
          rfl
    · have hs' : isTupD d = false := by simpa using hs
      refine qv_when (b := true) a (et_is (et_or (b := !isTupD d) (c := true) (et_not (et_val (ed_isi (ed_var rfl hv) (kit_tup _)))) fun h => by rw [hs'] at h; cases h) (by rw [hs']; rfl)) (fun hb B1 H1 e1 a1 => ?_) (fun h => nomatch h)
      refine sv_ret (P := DD K (.bool false)) a1 ed_bl fun v1 B2 H2 e2 a2 h2 => ?_
      obtain rfl := dd_bl h2
      refine fin _ B2 H2 a2 ?_
      cases d <;> first | rfl | cases hs'


/-! ### is_items -/
def ksOf : PyData → List Int
  | .tuple ds => ds.map numI
  | _ => []
theorem upD_ints : ∀ {w low : Int} {ds : List PyData}, upD w low ds = true → ds = (ds.map numI).map .int
  | _, _, [], _ => rfl
  | w, low, d :: ds, h => by
    have h' : (inB d low w && upD w (numI d) ds) = true := h
    rw [Bool.and_eq_true] at h'
    obtain ⟨k, rfl, _⟩ := inB_is h'.1
    show PyData.int k :: ds = PyData.int k :: (ds.map numI).map .int
    rw [← upD_ints h'.2]
theorem item_ints {d : PyData} {n w : Int} (h : itemD d n w = true) : d = .tuple ((ksOf d).map .int) := by
  cases d with
  | tuple xs =>
    cases xs with
    | nil => rfl
    | cons x ds =>
      have h' : (decide (ds.length = 4) && (inB x 0 (n - 1) && upD w 0 ds)) = true := h
      rw [Bool.and_eq_true, Bool.and_eq_true] at h'
      obtain ⟨k, rfl, _⟩ := inB_is h'.2.1
      show PyData.tuple (.int k :: ds) = .tuple (.int k :: (ds.map numI).map .int)
      rw [← upD_ints h'.2.2]
  | _ => cases h
def ltAt (xs : List PyData) (i : Nat) : Bool := ltI (ksOf (xs.getD i .none)) (ksOf (xs.getD (i + 1) .none))
def rowsD (d : PyData) (n w : Int) : Bool := match d with
  | .tuple xs => xs.all (itemD · n w) && (List.range (xs.length - 1)).all (ltAt xs)
  | _ => false
def fItems : List PyData → PyData
  | [d, .int n, .int w] => .bool (rowsD d n w)
  | _ => .none
abbrev s_is_items : Stmt := topS 27
abbrev N_is_items : List Str := ["value", "kinds", "words", "at", "item"]
theorem sc_is_items : FnScope N_is_items ["value", "kinds", "words"] (defScope s_is_items) := ⟨rfl, rfl, rfl, by decide +kernel, rfl, by decide +kernel, by decide +kernel⟩
theorem ok_is_items (F : Fun K "is_items" "is_items" s_is_items f fd) (T : TC K mg) (C_is_item : Callee P w K mg base "is_item" 3 ["value", "kinds", "words"] (spF K (fun ds => ∃ d n m, ds = [d, .int n, .int m]) fItem)) : FnOk P w K mg base CX0 4 f fd ["value", "kinds", "words"] (spF K (fun ds => ∃ d n m, ds = [d, .int n, .int m]) fItems) := by
  refine F.ok sc_is_items (fun vs H Q E h => ?_) (fun cdv A outer s H vs Q E hr h => ?_)
  · obtain ⟨B, ds, e, hd, ⟨d, n, m, rfl⟩, q⟩ := h
    exact hd.len
  · obtain ⟨B, ds, e, hd, ⟨d, n, m, rfl⟩, q⟩ := h
    have hu64 : (A.deeper (envOfC "is_items" (defScope s_is_items) s.heap.objs.size f cdv)).units + 64 < cLine := hr.units
    have huL : (A.deeper (envOfC "is_items" (defScope s_is_items) s.heap.objs.size f cdv)).units < cLine := Nat.lt_of_le_of_lt (Nat.le_add_right _ _) hu64
    obtain ⟨v, v2, v3, rfl, hv, hn, hm⟩ := arg3 hd
    obtain rfl := dd_int hn
    obtain rfl := dd_int hm
    refine ⟨_, (pss_cons (ps_if (PW.pt (pw_or (pt_not (pt_val (pe_callB (call_isiK1 K) (by rfl) T.m_isinstance bt_isinstance (pa_cons (pv 0) (pa_cons (pe_bltn (v := .ty "tuple") (by rfl) T.m_tuple bt_tuple rfl) pa_nil))))) (pw_or1 (pt_not (pt_val (pe_callB (cr_allK K) (by rfl) T.m_all bt_all (pa_cons (pe_lc (own := [("item", 4)]) rfl sc_is_items.nd (pi_seqK K (pv 0)) (blkOk_by (own := [("item", 4)]) (N := N_is_items) (sc := defScope s_is_items) (by decide +kernel)) (fun _ _ _ _ _ => pg_name (i := 4) sc_is_items.nd rfl (Or.inl rfl)) (fun _ _ _ _ _ => pts_nil) (fun _ _ _ _ _ => (pe_callC C_is_item (hr.mono (by decide)) rfl pass0 (pa_cons (pv 4) (pa_cons (pv 1) (pa_cons (pv 2) pa_nil)))))) pa_nil))))))) (pss_one (ps_ret pe_bl)) pss_nil)
      (pss_one (ps_ret (pe_callB (cr_allK K) (by rfl) T.m_all bt_all (pa_cons (pe_lc (own := [("at", 3)]) rfl sc_is_items.nd (pi_range1 rfl T.m_range (pa_cons (pe_op op_sub (pe_callB (call_lenK K) (by rfl) T.m_len bt_len (pa_cons (pv 0) pa_nil)) pe_int) pa_nil)) (blkOk_by (own := [("at", 3)]) (N := N_is_items) (sc := defScope s_is_items) (by decide +kernel)) (fun _ _ _ _ _ => pg_name (i := 3) sc_is_items.nd rfl (Or.inl rfl)) (fun _ _ _ _ _ => pts_nil) (fun _ _ _ _ _ => (pe_cmpR (op_ltTK K huL) (pe_ix (ix_seqK K) (pv 0) (pv 3) (fun _ _ => rfl)) (pe_ix (ix_seqK K) (pv 0) (pe_op (op_addK K) (pv 3) pe_int) (fun _ _ => rfl)) (nomark _)))) pa_nil))))), ?_⟩
    have a : At Fm.pure B H B H := At.start (Ok.any e)
    have fin : ∀ b B1 H1, At Fm.pure B H B1 H1 → b = rowsD d n m → Q (.bl b) H1 := fun b B1 H1 a1 eb => by
      refine q _ B1 H1 a1.st ?_
      show Dd K B1 (.bl b) (.bool (rowsD d n m))
      rw [eb]
      exact .bl _
    by_cases hs : isTupD d = true
    · obtain ⟨xs, rfl⟩ := tup_is hs
      have hz : xs.length ≤ 16777216 := by
        obtain ⟨p, us, _, _, l1, g1⟩ := dd_tup hv
        rw [← g1.len, ← sizeLine_eq]
        exact l1
      refine qv_when (b := !xs.all (itemD · n m)) a (et_is (et_or (b := false) (et_not (et_val (ed_isi (ed_var rfl hv) (kit_tup _)))) fun _ => et_not (et_val (ed_is (ev_cb (eds_cons (ed_is (ed_lcD (fun _ => true) (fun d => .bool (itemD d n m)) (ev_seqT (ed_var rfl hv)) hz (fun _ => rfl) (fun d v B2 _ _ _ => et_yes) (fun d v B2 _ _ _ hdv => ed_F (eds_cons (ed_var rfl hdv) (eds_cons (ed_var rfl (.int n)) (eds_cons (ed_var rfl (.int m)) eds_nil))) ⟨_, _, _, rfl⟩ rfl)) (by rw [mapb])) eds_nil) rc_all) (by rw [all_id])))) (by rfl)) (fun hb B1 H1 e1 a1 => ?_) (fun hb B1 H1 e1 a1 => ?_)
      · refine sv_ret (P := DD K (.bool false)) a1 ed_bl fun v1 B2 H2 e2 a2 h2 => ?_
        obtain rfl := dd_bl h2
        refine fin _ B2 H2 a2 ?_
        show false = (xs.all (itemD · n m) && (List.range (xs.length - 1)).all (ltAt xs))
        rw [show xs.all (itemD · n m) = false by simpa using hb]
        rfl
      · have hall : xs.all (itemD · n m) = true := by simpa using hb
        have hint5 : ∀ (i : Nat) (d : PyData), xs[i]? = some d → d = PyData.tuple ((ksOf d).map .int) := fun i d h => item_ints (List.all_eq_true.mp hall d (List.mem_of_getElem? h))
        refine sv_ret (P := DD K (.bool (rowsD (.tuple xs) n m))) a1 (ed_is (ev_cb (eds_cons (ed_is (ed_lcR (n := (xs.length : Int) - 1) (fun _ => true) (fun i => .bool (ltAt xs i)) (eds_cons (ed_op (ev_cb (eds_cons (ed_var rfl (hv.up e1)) eds_nil) (rc_len rfl)) ed_int rd_sub) eds_nil) (by omega) (fun _ => rfl) (fun i B2 _ _ => et_yes) (fun i B2 hi _ e2 => ?_)) (by rw [mapb])) eds_nil) rc_all) ?_) fun v1 B2 H2 e2 a2 h2 => ?_
        · obtain ⟨x, hx⟩ : ∃ x, xs[i]? = some x := ⟨_, List.getElem?_eq_getElem (by omega)⟩
          obtain ⟨y, hy⟩ : ∃ y, xs[i + 1]? = some y := ⟨_, List.getElem?_eq_getElem (by omega)⟩
          refine ed_is (ed_op (x := .tuple ((ksOf x).map .int)) (y := .tuple ((ksOf y).map .int)) (ed_is (ed_op (ed_var rfl (hv.up (e1.trans e2))) (ed_var rfl (.int _)) (rd_ixT (atI_nat (j := i) hx))) (hint5 i x hx)) (ed_is (ed_op (ed_var rfl (hv.up (e1.trans e2))) (ed_op (ed_var rfl (.int _)) ed_int rd_add) (rd_ixT (atI_nat (j := i + 1) hy))) (hint5 _ y hy)) rd_ltT) ?_
          show PyData.bool (ltI (ksOf x) (ksOf y)) = .bool (ltI (ksOf (xs.getD i .none)) (ksOf (xs.getD (i + 1) .none)))
          rw [List.getD_eq_getElem?_getD, List.getD_eq_getElem?_getD, hx, hy]
          rfl
        · rw [all_id, show ((xs.length : Int) - 1).toNat = xs.length - 1 by omega]
          show _ = PyData.bool (xs.all (itemD · n m) && (List.range (xs.length - 1)).all (ltAt xs))
          rw [hall]
          rfl
        · obtain rfl := dd_bl h2
          exact fin _ B2 H2 a2 rfl
    · have hs' : isTupD d = false := by simpa using hs
      refine qv_when (b := true) a (et_is (et_or (b := !isTupD d) (c := true) (et_not (et_val (ed_isi (ed_var rfl hv) (kit_tup _)))) fun h => by rw [hs'] at h; cases h) (by rw [hs']; rfl)) (fun hb B1 H1 e1 a1 => ?_) (fun h => nomatch h)
      refine sv_ret (P := DD K (.bool false)) a1 ed_bl fun v1 B2 H2 e2 a2 h2 => ?_
      obtain rfl := dd_bl h2
      refine fin _ B2 H2 a2 ?_
      cases d <;> first | rfl | cases hs'

end
end K12

namespace K12
open PySem PySem.Spec PyProof.Rows L2 Evl Ex Dx
open PySem.PyData (strOk)
section
variable {P : Program} {w : World} {K : PySem.W.Frag} {mg : Str → Option Value} {base : Heap} {f : Addr} {fd : FuncData}
theorem bt_sum : bootBuiltins "sum" = some (.builtin "sum") := by decide +kernel
/-! ### many_of_text -/
def atG (m : Mp) (k : List Int) : Int := (lkI m k).getD 0
def textM (m : Mp) (k b e : Int) : Int := ((List.range (e + 1 - b).toNat).map fun i : Nat => atG m [k, b, b + (i : Int), b + (i : Int), e]).sum
theorem mapi {α : Type} (l : List α) (f : α → Int) : (l.filter fun _ => true).map (fun c => PyData.int (f c)) = (l.map f).map PyData.int := by
  rw [List.filter_eq_self.mpr (fun _ _ => rfl), List.map_map]
  rfl
/-- (a, b, ..) of ints, made on the spot -/
theorem ev_keyT {F : Fm} {σ : L2.St} {B : Hp} {tas : TA} {k : List Int} (h : EDs F K tas σ B (k.map .int)) (hl : k.length ≤ 16777216 := by exact Nat.le_of_ble_eq_true rfl) : EV F (tTup tas) σ B (KeyV k) :=
  h.newT (fun vs B1 _ g => by rw [DdAll.len g, sizeLine_eq, List.length_map]; exact hl) fun vs p B1 e g hp => ⟨p, rfl, by rw [← ddAll_ints g]; exact upd_same⟩
theorem ed_dget2 {F : Fm} {σ : L2.St} {B : Hp} {td ty : TE} {m : Mp} {k : List Int} (hd : EV F td σ B (DicV m)) (hk : EV F ty σ B (KeyV k)) : ED F K (tDGet2 td ty (tC (.int 0))) σ B (.int (atG m k)) :=
  (ev_dget2 (d := 0) hd hk).imp fun v _ _ e => by rw [e]; exact .int _
/-- kind, begin, end, counts -/
def spMT (K : PySem.W.Frag) : Sp := fun vs H Q _ => ∃ (B : Hp) (k b e : Int) (v : V) (m : Mp), vs = [.int k, .int b, .int e, v] ∧ Ex B H ∧ DicV m v B ∧ (-1000 ≤ b ∧ b ≤ 1000 ∧ -1000 ≤ e ∧ e ≤ 1000) ∧
  ∀ B' H', Step (fun _ => False) B H B' H' → Q (.int (textM m k b e)) H'
abbrev s_many_of_text : Stmt := topS 38
abbrev N_many_of_text : List Str := ["kind", "begin", "end", "counts", "at"]
theorem sc_many_of_text : FnScope N_many_of_text ["kind", "begin", "end", "counts"] (defScope s_many_of_text) := ⟨rfl, rfl, rfl, by decide +kernel, rfl, by decide +kernel, by decide +kernel⟩
theorem ok_many_of_text (F : Fun K "many_of_text" "many_of_text" s_many_of_text f fd) (T : TC K mg) (m_sum : mg "sum" = none) : FnOk P w K mg base CX0 1 f fd ["kind", "begin", "end", "counts"] (spMT K) := by
  refine F.ok sc_many_of_text (fun vs H Q E h => ?_) (fun cdv A outer s H vs Q E hr h => ?_)
  · obtain ⟨B, k, b, e, v, m, rfl, _⟩ := h
    rfl
  · obtain ⟨B, k, b, e, v, m, rfl, ex, hv, ⟨b0, b1, e0, e1⟩, q⟩ := h
    have hu64 : (A.deeper (envOfC "many_of_text" (defScope s_many_of_text) s.heap.objs.size f cdv)).units + 64 < cLine := hr.units
    have hu1 : (A.deeper (envOfC "many_of_text" (defScope s_many_of_text) s.heap.objs.size f cdv)).units + 1 < cLine := by omega
    refine ⟨_, (pss_one (ps_ret (pe_callB (cr_sumK K rfl) (by rfl) m_sum bt_sum (pa_cons (pe_lc (own := [("at", 4)]) rfl sc_many_of_text.nd (pi_range2 rfl T.m_range (pa_cons (pv 1) (pa_cons (pe_op (op_addK K) (pv 2) pe_int) pa_nil))) (blkOk_by (own := [("at", 4)]) (N := N_many_of_text) (sc := defScope s_many_of_text) (by decide +kernel)) (fun _ _ _ _ _ => pg_name (i := 4) sc_many_of_text.nd rfl (Or.inl rfl)) (fun _ _ _ _ _ => pts_nil) (fun _ _ _ _ _ => (pe_dget2 hu1 (pv 3) (pe_tup (pa_cons (pv 0) (pa_cons (pv 1) (pa_cons (pv 4) (pa_cons (pv 4) (pa_cons (pv 2) pa_nil)))))) pe_int ⟨rfl, rfl, rfl, rfl⟩))) pa_nil)))), ?_⟩
    have a : At Fm.pure B H B H := At.start (Ok.any ex)
    refine sv_ret (P := DD K (.int (textM m k b e))) a (ed_is (ev_cb (eds_cons (ed_is (ed_lcR2 (lo := b) (n := e + 1) (fun _ => true) (fun i => .int (atG m [k, b, b + (i : Int), b + (i : Int), e])) (eds_cons (ed_var rfl (.int b)) (eds_cons (ed_op (ed_var rfl (.int e)) ed_int rd_add) eds_nil)) (by omega) (fun _ => rfl) (fun i B2 _ _ => et_yes) (fun i B2 hi _ e2 => ?_)) (by rw [mapi])) eds_nil) rc_sum) rfl) fun v1 B2 H2 e2 a2 h2 => ?_
    · exact ed_dget2 (Dx.ev_var (P := DicV m) rfl upc_dic (upc_dic _ _ _ e2 hv)) (ev_keyT (K := K) (k := [k, b, b + (i : Int), b + (i : Int), e]) (eds_cons (ed_var rfl (.int k)) (eds_cons (ed_var rfl (.int b)) (eds_cons (ed_var rfl (.int _)) (eds_cons (ed_var rfl (.int _)) (eds_cons (ed_var rfl (.int e)) eds_nil))))))
    · obtain rfl := dd_int h2
      exact q _ _ a2.st
end
end K12

namespace K12
open PySem PySem.Spec PyProof.Rows L2 Evl Ex Dx
open PySem.PyData (strOk)
section
variable {P : Program} {w : World} {K : PySem.W.Frag} {mg : Str → Option Value} {base : Heap} {f : Addr} {fd : FuncData}
theorem ed_MT {F : Fm} {σ : L2.St} {B : Hp} {E : XK} {t1 t2 t3 t4 : TE} {k b e : Int} {m : Mp} (h1 : ED F K t1 σ B (.int k)) (h2 : ED F K t2 σ B (.int b)) (h3 : ED F K t3 σ B (.int e)) (h4 : EV F t4 σ B (DicV m)) (hb : -1000 ≤ b ∧ b ≤ 1000 ∧ -1000 ≤ e ∧ e ≤ 1000) : ED F K (tCall (spMT K) [] E (tCons t1 (tCons t2 (tCons t3 (tCons t4 tNil))))) σ B (.int (textM m k b e)) :=
  ev_call (evs_cons upc_dd h1 (evs_cons upc_dd h2 (evs_cons upc_dd h3 (evs_cons upc_dic h4 evs_nil)))) fun B1 e0 H us jj hu Q q => by
    obtain ⟨v1, _, rfl, p1, v2, _, rfl, p2, v3, _, rfl, p3, v4, _, rfl, p4, rfl⟩ := hu
    obtain rfl := dd_int p1
    obtain rfl := dd_int p2
    obtain rfl := dd_int p3
    exact ⟨B1, k, b, e, v4, m, rfl, jj.e, p4, hb, fun B' H' s => q _ B' H' s.pure (jj.pure s) (.int _)⟩
/-! ### has_whole -/
def spHW (K : PySem.W.Frag) : Sp := fun vs H Q _ => ∃ (B : Hp) (n : Int) (v : V) (m : Mp), vs = [v, .int n] ∧ Ex B H ∧ DicV m v B ∧ (0 ≤ n ∧ n ≤ 1000) ∧
  ∀ B' H', Step (fun _ => False) B H B' H' → Q (.bl (decide (0 < textM m 0 0 n))) H'
abbrev s_has_whole : Stmt := topS 30
abbrev N_has_whole : List Str := ["counts", "words"]
theorem sc_has_whole : FnScope N_has_whole ["counts", "words"] (defScope s_has_whole) := ⟨rfl, rfl, rfl, by decide +kernel, rfl, by decide +kernel, by decide +kernel⟩
theorem ok_has_whole (F : Fun K "has_whole" "has_whole" s_has_whole f fd) (C_many_of_text : Callee P w K mg base "many_of_text" 1 ["kind", "begin", "end", "counts"] (spMT K)) : FnOk P w K mg base CX0 2 f fd ["counts", "words"] (spHW K) := by
  refine F.ok sc_has_whole (fun vs H Q E h => ?_) (fun cdv A outer s H vs Q E hr h => ?_)
  · obtain ⟨B, n, v, m, rfl, _⟩ := h
    rfl
  · obtain ⟨B, n, v, m, rfl, ex, hv, ⟨n0, n1⟩, q⟩ := h
    refine ⟨_, (pss_one (ps_ret (pe_cmpR op_gt (pe_callC C_many_of_text (hr.mono (by decide)) rfl pass0 (pa_cons pe_int (pa_cons pe_int (pa_cons (pv 1) (pa_cons (pv 0) pa_nil))))) pe_int (nomark _)))), ?_⟩
    have a : At Fm.pure B H B H := At.start (Ok.any ex)
    refine sv_ret (P := DD K (.bool (decide (0 < textM m 0 0 n)))) a (ed_op (ed_MT ed_int ed_int (ed_var rfl (.int n)) (Dx.ev_var (P := DicV m) rfl upc_dic hv) (by omega)) ed_int rd_gt) fun v1 B2 H2 e2 a2 h2 => ?_
    obtain rfl := dd_bl h2
    exact q _ _ a2.st
end
end K12

namespace K12
open PySem PySem.Spec PyProof.Rows L2 Evl Ex Dx
open PySem.PyData (strOk)
section
variable {P : Program} {w : World} {K : PySem.W.Frag} {mg : Str → Option Value} {base : Heap} {f : Addr} {fd : FuncData}
/-- i, j, k, l = four ints -/
theorem qv_unp4 {F : Fm} {σ : L2.St} {B0 H0 B H : Hp} {D : Ends} {tz : TS} {te : TE} {i j k l : Int} {p1 p2 p3 p4 : Nat} (a : At F B0 H0 B H) (h : ED F K te σ B (.tuple [.int i, .int j, .int k, .int l]))
    (q : ∀ B1 H1, Ex B B1 → At F B0 H0 B1 H1 → tz D ((((σ.set p1 (some (.int i))).set p2 (some (.int j))).set p3 (some (.int k))).set p4 (some (.int l))) H1) :
    tSeq (tAsg te (gTup K 4 (gCons (gName p1) (gCons (gName p2) (gCons (gName p3) (gCons (gName p4) gNil)))))) tz D σ H := h B (Ex.refl B) H a.j _ fun v B1 H1 s jj p => by
  obtain ⟨b, rfl, hb⟩ := sq_ints (ns := [i, j, k, l]) (Dd.up p jj.e)
  exact ⟨b, _, rfl, hb, rfl, _, _, rfl, _, _, rfl, _, _, rfl, _, _, rfl, rfl, q B1 H1 s.bb (a.next s jj)⟩
/-! ### many_by_one -/
def oneM (m : Mp) (how : Str) (o i j k l : Int) : Int :=
  if (how == ("same" : Str)) = true then atG m [o, i, j, k, l] else if (how == ("first" : Str)) = true then (if k = l then textM m o i j else 0) else if i = j then textM m o k l else 0
/-- rule, places, counts -/
def spM1 (K : PySem.W.Frag) : Sp := fun vs H Q _ => ∃ (B : Hp) (v u y : V) (r0 : PyData) (how : Str) (o i j k l : Int) (m : Mp), vs = [v, u, y] ∧ Ex B H ∧ SeqAt.shaped (.str how) = true ∧ Dd K B v (.tuple [r0, .str how, .int o]) ∧ Dd K B u (.tuple [.int i, .int j, .int k, .int l]) ∧ DicV m y B ∧
  ((0 ≤ i ∧ i ≤ 100) ∧ (0 ≤ j ∧ j ≤ 100) ∧ (0 ≤ k ∧ k ≤ 100) ∧ 0 ≤ l ∧ l ≤ 100) ∧ ∀ B' H', Step (fun _ => False) B H B' H' → Q (.int (oneM m how o i j k l)) H'
abbrev s_many_by_one : Stmt := topS 34
abbrev N_many_by_one : List Str := ["rule", "places", "counts", "i", "j", "k", "l"]
theorem sc_many_by_one : FnScope N_many_by_one ["rule", "places", "counts"] (defScope s_many_by_one) := ⟨rfl, rfl, rfl, by decide +kernel, rfl, by decide +kernel, by decide +kernel⟩
theorem ok_many_by_one (F : Fun K "many_by_one" "many_by_one" s_many_by_one f fd) (T : TC K mg) (C_many_of_text : Callee P w K mg base "many_of_text" 1 ["kind", "begin", "end", "counts"] (spMT K)) : FnOk P w K mg base CX0 2 f fd ["rule", "places", "counts"] (spM1 K) := by
  refine F.ok sc_many_by_one (fun vs H Q E h => ?_) (fun cdv A outer s H vs Q E hr h => ?_)
  · obtain ⟨B, v, u, y, r0, how, o, i, j, k, l, m, rfl, _⟩ := h
    rfl
  · obtain ⟨B, v, u, y, r0, how, o, i, j, k, l, m, rfl, ex, hsh, hv, hu, hy, ⟨bi, bj, bk, bl⟩, q⟩ := h
    have hu64 : (A.deeper (envOfC "many_by_one" (defScope s_many_by_one) s.heap.objs.size f cdv)).units + 64 < cLine := hr.units
    have hu1 : (A.deeper (envOfC "many_by_one" (defScope s_many_by_one) s.heap.objs.size f cdv)).units + 1 < cLine := by omega
    refine ⟨_, (pss_cons (ps_asg (pv 1) (pg_tup (by rfl) (pgs_cons (pg_name (i := 3) sc_many_by_one.nd rfl (Or.inl rfl)) (pgs_cons (pg_name (i := 4) sc_many_by_one.nd rfl (Or.inl rfl)) (pgs_cons (pg_name (i := 5) sc_many_by_one.nd rfl (Or.inl rfl)) (pgs_cons (pg_name (i := 6) sc_many_by_one.nd rfl (Or.inl rfl)) pgs_nil))))))
      (pss_cons (ps_if (pt_cmpR (op_eqDK K hu64) (pe_ix (ix_seqK K) (pv 0) pe_int (fun _ _ => rfl)) pe_str (nomark _)) (pss_one (ps_ret (pe_dget2 hu1 (pv 2) (pe_tup (pa_cons (pe_ix (ix_seqK K) (pv 0) pe_int (fun _ _ => rfl)) (pa_cons (pv 3) (pa_cons (pv 4) (pa_cons (pv 5) (pa_cons (pv 6) pa_nil)))))) pe_int ⟨rfl, rfl, rfl, rfl⟩))) pss_nil)
      (pss_cons (ps_if (pt_cmpR (op_eqDK K hu64) (pe_ix (ix_seqK K) (pv 0) pe_int (fun _ _ => rfl)) pe_str (nomark _)) (pss_one (ps_ret (pe_ifExp (pt_cmpR (op_eqDK K hu64) (pv 5) (pv 6) (nomark _)) (pe_callC C_many_of_text (hr.mono (by decide)) rfl pass0 (pa_cons (pe_ix (ix_seqK K) (pv 0) pe_int (fun _ _ => rfl)) (pa_cons (pv 3) (pa_cons (pv 4) (pa_cons (pv 2) pa_nil))))) pe_int))) pss_nil)
      (pss_one (ps_ret (pe_ifExp (pt_cmpR (op_eqDK K hu64) (pv 3) (pv 4) (nomark _)) (pe_callC C_many_of_text (hr.mono (by decide)) rfl pass0 (pa_cons (pe_ix (ix_seqK K) (pv 0) pe_int (fun _ _ => rfl)) (pa_cons (pv 5) (pa_cons (pv 6) (pa_cons (pv 2) pa_nil))))) pe_int)))))), ?_⟩

    have a : At Fm.pure B H B H := At.start (Ok.any ex)
    have fin : ∀ (n : Int) v1 B1 H1, At Fm.pure B H B1 H1 → DD K (.int n) v1 B1 → n = oneM m how o i j k l → Q v1 H1 := fun n v1 B1 H1 a1 h1 en => by
      obtain rfl := dd_int h1
      rw [en]
      exact q _ _ a1.st
    refine qv_unp4 a (ed_var rfl hu) fun B1 H1 e1 a1 => ?_
    have hwE : ∀ B2 (σ : L2.St) (x : Str), Ex B B2 → x.length ≤ sizeLine → SeqAt.shaped (.str x) = true → σ[0]? = some (some v) → ETt Fm.pure (tTest (tOp (rEqD K) (tOp (rIx K) (tVar 0) (tC (.int 1))) (tC (.str x)))) σ B2 (how == x) := fun B2 σ x e2 hx hs hσ => et_is (et_cmp (ed_op (ed_op (ed_var hσ (hv.up e2)) ed_int (rd_ixT at3_1)) (ed_str hx) (rd_eqD hsh hs))) (eqv_str _ _)
    have o2 : ∀ B2 (σ : L2.St), Ex B B2 → σ[0]? = some (some v) → ED Fm.pure K (tOp (rIx K) (tVar 0) (tC (.int 2))) σ B2 (.int o) := fun B2 σ e2 hσ => ed_op (ed_var hσ (hv.up e2)) ed_int (rd_ixT at3_2)
    refine qv_when (b := how == ("same" : Str)) a1 (hwE B1 _ _ e1 (by decide) (by decide +kernel) rfl) (fun hb B2 H2 e2 a2 => ?_) (fun hb B2 H2 e2 a2 => ?_)
    · refine sv_ret (P := DD K (.int (atG m [o, i, j, k, l]))) a2 (ed_dget2 (Dx.ev_var (P := DicV m) rfl upc_dic (upc_dic _ _ _ (e1.trans e2) hy)) (ev_keyT (K := K) (k := [o, i, j, k, l]) (eds_cons (o2 _ _ (e1.trans e2) rfl) (eds_cons (ed_var rfl (.int i)) (eds_cons (ed_var rfl (.int j)) (eds_cons (ed_var rfl (.int k)) (eds_cons (ed_var rfl (.int l)) eds_nil))))))) fun v1 B3 H3 e3 a3 h3 => fin _ _ _ _ a3 h3 ?_
      unfold oneM
      rw [if_pos hb]
    have nn : ¬ (how == ("same" : Str)) = true := by rw [hb]; exact Bool.false_ne_true
    have e12 := e1.trans e2
    have eqI : ∀ B2 (σ : L2.St) (p q : Nat) (x y : Int), σ[p]? = some (some (.int x)) → σ[q]? = some (some (.int y)) → ETt Fm.pure (tTest (tOp (rEqD K) (tVar p) (tVar q))) σ B2 (decide (x = y)) := fun B2 σ p q x y hp hq => et_is (et_cmp (ed_op (ed_var hp (.int x)) (ed_var hq (.int y)) (rd_eqD rfl rfl))) (by rw [eqv_int, Bool.eq_iff_iff, beq_iff_eq, decide_eq_true_eq])
    refine qv_when (b := how == ("first" : Str)) a2 (hwE B2 _ _ e12 (by decide) (by decide +kernel) rfl) (fun hb3 B3 H3 e3 a3 => ?_) (fun hb3 B3 H3 e3 a3 => ?_)
    · refine sv_ret (P := DD K (.int (if k = l then textM m o i j else 0))) a3 (ev_if (b := decide (k = l)) (eqI _ _ 5 6 k l rfl rfl) (fun hk => ?_) (fun hk => ?_)) fun v1 B4 H4 e4 a4 h4 => fin _ _ _ _ a4 h4 ?_
      · rw [if_pos (of_decide_eq_true hk)]
        exact ed_MT (o2 _ _ (e12.trans e3) rfl) (ed_var rfl (.int i)) (ed_var rfl (.int j)) (Dx.ev_var (P := DicV m) rfl upc_dic (upc_dic _ _ _ (e12.trans e3) hy)) (by omega)
      · rw [if_neg (of_decide_eq_false hk)]
        exact ed_int
      · unfold oneM
        rw [if_neg nn, if_pos hb3]
    · refine sv_ret (P := DD K (.int (if i = j then textM m o k l else 0))) a3 (ev_if (b := decide (i = j)) (eqI _ _ 3 4 i j rfl rfl) (fun hk => ?_) (fun hk => ?_)) fun v1 B4 H4 e4 a4 h4 => fin _ _ _ _ a4 h4 ?_
      · rw [if_pos (of_decide_eq_true hk)]
        exact ed_MT (o2 _ _ (e12.trans e3) rfl) (ed_var rfl (.int k)) (ed_var rfl (.int l)) (Dx.ev_var (P := DicV m) rfl upc_dic (upc_dic _ _ _ (e12.trans e3) hy)) (by omega)
      · rw [if_neg (of_decide_eq_false hk)]
        exact ed_int
      · unfold oneM
        have n3 : ¬ (how == ("first" : Str)) = true := by rw [hb3]; exact Bool.false_ne_true
        rw [if_neg nn, if_neg n3]
end
end K12

namespace K12
open PySem PySem.Spec PyProof.Rows L2 Evl Ex Dx
open PySem.PyData (strOk)
section
variable {P : Program} {w : World} {K : PySem.W.Frag} {mg : Str → Option Value} {base : Heap} {f : Addr} {fd : FuncData}
/-- i, j = two ints -/
theorem qv_unp2 {F : Fm} {σ : L2.St} {B0 H0 B H : Hp} {D : Ends} {tz : TS} {te : TE} {i j : Int} {p1 p2 : Nat} (a : At F B0 H0 B H) (h : ED F K te σ B (.tuple [.int i, .int j]))
    (q : ∀ B1 H1, Ex B B1 → At F B0 H0 B1 H1 → tz D ((σ.set p1 (some (.int i))).set p2 (some (.int j))) H1) :
    tSeq (tAsg te (gTup K 2 (gCons (gName p1) (gCons (gName p2) gNil)))) tz D σ H := h B (Ex.refl B) H a.j _ fun v B1 H1 s jj p => by
  obtain ⟨b, rfl, hb⟩ := sq_ints (ns := [i, j]) (Dd.up p jj.e)
  exact ⟨b, _, rfl, hb, rfl, _, _, rfl, _, _, rfl, rfl, q B1 H1 s.bb (a.next s jj)⟩
/-- x += an int -/
theorem sv_aug {F : Fm} {σ : L2.St} {B0 H0 B H : Hp} {D : Ends} {te : TE} {x y : Int} {i : Nat} (a : At F B0 H0 B H) (hσ : σ[i]? = some (some (.int x))) (h : ED F K te σ B (.int y))
    (q : ∀ B1 H1, Ex B B1 → At F B0 H0 B1 H1 → D.nx (σ.set i (some (.int (x + y)))) H1) : tAug i te (ipI fun i j => i + j) D σ H := ⟨_, hσ, h B (Ex.refl B) H a.j _ fun v B1 H1 s j p => by
  obtain rfl := dd_int p
  exact ⟨x, y, rfl, rfl, q B1 H1 s.bb (a.next s j)⟩⟩
def accM (f : Nat → Int) (n : Nat) : Int := ((List.range n).map f).sum
theorem accM_succ (f : Nat → Int) (n : Nat) : accM f (n + 1) = accM f n + f n := by
  unfold accM
  rw [List.range_succ, List.map_append, List.sum_append]
  simp
def posM (x y : Int) : Int := if 0 < x then x * y else 0
def aheadM (m : Mp) (o ot g j k l : Int) : Int := accM (fun n : Nat => posM (atG m [o, g + (n : Int), j, k, l]) (textM m ot g (g + (n : Int)))) (j + 1 - g).toNat
def behindM (m : Mp) (o ot i j k h : Int) : Int := accM (fun n : Nat => posM (atG m [o, i, j, k, k + (n : Int)]) (textM m ot (k + (n : Int)) h)) (h + 1 - k).toNat
/-- values that may be multiplied -/
def Small (m : Mp) : Prop := ∀ k, -(2 ^ 64) < atG m k ∧ atG m k < 2 ^ 64
/-- rule, places, counts -/
def spM2 (K : PySem.W.Frag) (z : Mp → Int → Int → Int → Int → Int → Int → Int) : Sp := fun vs H Q _ => ∃ (B : Hp) (v u y : V) (r0 : PyData) (how : Str) (o ot i j k l : Int) (m : Mp), vs = [v, u, y] ∧ Ex B H ∧ Dd K B v (.tuple [r0, .str how, .int o, .int ot]) ∧ Dd K B u (.tuple [.int i, .int j, .int k, .int l]) ∧ DicV m y B ∧ Small m ∧
  ((0 ≤ i ∧ i ≤ 100) ∧ (0 ≤ j ∧ j ≤ 100) ∧ (0 ≤ k ∧ k ≤ 100) ∧ 0 ≤ l ∧ l ≤ 100) ∧ ∀ B' H', Step (fun _ => False) B H B' H' → Q (.int (z m o ot i j k l)) H'
abbrev s_many_by_ahead : Stmt := topS 36
abbrev N_many_by_ahead : List Str := ["rule", "places", "counts", "g", "j", "k", "l", "one", "other", "total", "i", "many"]
theorem sc_many_by_ahead : FnScope N_many_by_ahead ["rule", "places", "counts"] (defScope s_many_by_ahead) := ⟨rfl, rfl, rfl, by decide +kernel, rfl, by decide +kernel, by decide +kernel⟩
theorem ok_many_by_ahead (F : Fun K "many_by_ahead" "many_by_ahead" s_many_by_ahead f fd) (T : TC K mg) (C_many_of_text : Callee P w K mg base "many_of_text" 1 ["kind", "begin", "end", "counts"] (spMT K)) : FnOk P w K mg base CX0 2 f fd ["rule", "places", "counts"] (spM2 K aheadM) := by
  refine F.ok sc_many_by_ahead (fun vs H Q E h => ?_) (fun cdv A outer s H vs Q E hr h => ?_)
  · obtain ⟨B, v, u, y, r0, how, o, ot, i, j, k, l, m, rfl, _⟩ := h
    rfl
  · obtain ⟨B, v, u, y, r0, how, o, ot, i, j, k, l, m, rfl, ex, hv, hu, hy, sm, ⟨bi, bj, bk, bl⟩, q⟩ := h
    have hu64 : (A.deeper (envOfC "many_by_ahead" (defScope s_many_by_ahead) s.heap.objs.size f cdv)).units + 64 < cLine := hr.units
    have hu1 : (A.deeper (envOfC "many_by_ahead" (defScope s_many_by_ahead) s.heap.objs.size f cdv)).units + 1 < cLine := by omega
    refine ⟨_, (pss_cons (ps_asg (pv 1) (pg_tup (by rfl) (pgs_cons (pg_name (i := 3) sc_many_by_ahead.nd rfl (Or.inl rfl)) (pgs_cons (pg_name (i := 4) sc_many_by_ahead.nd rfl (Or.inl rfl)) (pgs_cons (pg_name (i := 5) sc_many_by_ahead.nd rfl (Or.inl rfl)) (pgs_cons (pg_name (i := 6) sc_many_by_ahead.nd rfl (Or.inl rfl)) pgs_nil))))))
      (pss_cons (ps_asg (pe_slice (sl_anyK K) (pv 0) (po_some pe_int) po_none) (pg_tup (by rfl) (pgs_cons (pg_name (i := 7) sc_many_by_ahead.nd rfl (Or.inl rfl)) (pgs_cons (pg_name (i := 8) sc_many_by_ahead.nd rfl (Or.inl rfl)) pgs_nil))))
      (pss_cons (ps_set (i := 9) sc_many_by_ahead.nd rfl (Or.inl rfl) pe_int)
      (pss_cons (ps_for PassesOwn.never rfl (pi_range2 rfl T.m_range (pa_cons (pv 3) (pa_cons (pe_op (op_addK K) (pv 4) pe_int) pa_nil))) (pg_name (i := 10) sc_many_by_ahead.nd rfl (Or.inl rfl)) (pss_cons (ps_set (i := 11) sc_many_by_ahead.nd rfl (Or.inl rfl) (pe_dget2 hu1 (pv 2) (pe_tup (pa_cons (pv 7) (pa_cons (pv 10) (pa_cons (pv 4) (pa_cons (pv 5) (pa_cons (pv 6) pa_nil)))))) pe_int ⟨rfl, rfl, rfl, rfl⟩))
      (pss_one (ps_if (pt_cmpR op_gt (pv 11) pe_int (nomark _)) (pss_one (ps_aug (i := 9) sc_many_by_ahead.nd rfl (Or.inl rfl) (pe_op op_mul (pv 11) (pe_callC C_many_of_text (hr.mono (by decide)) rfl pass0 (pa_cons (pv 8) (pa_cons (pv 3) (pa_cons (pv 10) (pa_cons (pv 2) pa_nil)))))) ip_add)) pss_nil))))
      (pss_one (ps_ret (pv 9))))))), ?_⟩

    have a : At Fm.pure B H B H := At.start (Ok.any ex)
    refine qv_unp4 a (ed_var rfl hu) fun B1 H1 e1 a1 => ?_
    refine qv_unp2 (i := o) (j := ot) a1 (ed_is (ed_slT (K := K) (ed_var rfl (hv.up e1)) (eo_some (K := K) ed_int) eo_none) (by rw [cut2])) fun B2 H2 e2 a2 => ?_
    refine qv_asg (P := DD K (.int 0)) a2 ed_int fun v3 B3 H3 e3 a3 h3 => ?_
    obtain rfl := dd_int h3
    have e13 := (e1.trans e2).trans e3
    let fz : Nat → Int := fun c : Nat => posM (atG m [o, i + (c : Int), j, k, l]) (textM m ot i (i + (c : Int)))
    refine qd_forR2 (lo := i) (n := j + 1) a3 (eds_cons (ed_var rfl (.int i)) (eds_cons (ed_op (ed_var rfl (.int j)) ed_int rd_add) eds_nil)) (by omega) (fun c σ' B' => Ex B B' ∧ ∃ o1 o2, σ' = [some v, some u, some y, some (.int i), some (.int j), some (.int k), some (.int l), some (.int o), some (.int ot), some (.int (accM fz c)), o1, o2]) (fun B4 e4 => ⟨e13.trans e4, _, _, rfl⟩) (fun Bb c σ' B4 H4 e0 hc e4 a4 hi => ?_) (fun σ' B4 H4 e4 a4 hi => ?_)
    · obtain ⟨eB, o1, o2, rfl⟩ := hi
      refine qv_asg (P := DD K (.int (atG m [o, i + (c : Int), j, k, l]))) a4 (ed_dget2 (Dx.ev_var (P := DicV m) rfl upc_dic (upc_dic _ _ _ eB hy)) (ev_keyT (K := K) (k := [o, i + (c : Int), j, k, l]) (eds_cons (ed_var rfl (.int o)) (eds_cons (ed_var rfl (.int _)) (eds_cons (ed_var rfl (.int _)) (eds_cons (ed_var rfl (.int _)) (eds_cons (ed_var rfl (.int _)) eds_nil))))))) fun v5 B5 H5 e5 a5 h5 => ?_
      obtain rfl := dd_int h5
      have s0 := accM_succ fz c
      refine sv_if (b := decide (0 < atG m [o, i + (c : Int), j, k, l])) a5 (et_is (et_cmp (K := K) (ed_op (ed_var rfl (.int _)) ed_int rd_gt)) rfl) (fun hb B6 H6 e6 a6 => ?_) (fun hb B6 H6 e6 a6 => ?_)
      · have hb' := of_decide_eq_true hb
        refine sv_aug (x := accM fz c) (y := atG m [o, i + (c : Int), j, k, l] * textM m ot i (i + (c : Int))) a6 rfl (ed_op (ed_var rfl (.int _)) (ed_MT (ed_var rfl (.int ot)) (ed_var rfl (.int _)) (ed_var rfl (.int _)) (Dx.ev_var (P := DicV m) rfl upc_dic (upc_dic _ _ _ ((eB.trans e5).trans e6) hy)) (by omega)) (rd_mul (.inl (sm _)))) fun B7 H7 e7 a7 => ?_
        refine ⟨B7, ((e4.trans e5).trans e6).trans e7, a7, ((eB.trans e5).trans e6).trans e7, some (.int (i + (c : Int))), some (.int (atG m [o, i + (c : Int), j, k, l])), ?_⟩
        rw [s0, show fz c = atG m [o, i + (c : Int), j, k, l] * textM m ot i (i + (c : Int)) from if_pos hb']
        rfl
      · have hb' := of_decide_eq_false hb
        refine ⟨B6, (e4.trans e5).trans e6, a6, (eB.trans e5).trans e6, some (.int (i + (c : Int))), some (.int (atG m [o, i + (c : Int), j, k, l])), ?_⟩
        rw [s0, show fz c = 0 from if_neg hb', Int.add_zero]
        rfl
    · obtain ⟨eB, o1, o2, rfl⟩ := hi
      refine sv_ret (P := DD K (.int (aheadM m o ot i j k l))) a4 (ed_var rfl (.int _)) fun v5 B5 H5 e5 a5 h5 => ?_
      obtain rfl := dd_int h5
      exact q _ _ a5.st
abbrev s_many_by_behind : Stmt := topS 37
abbrev N_many_by_behind : List Str := ["rule", "places", "counts", "i", "j", "k", "h", "one", "other", "total", "l", "many"]
theorem sc_many_by_behind : FnScope N_many_by_behind ["rule", "places", "counts"] (defScope s_many_by_behind) := ⟨rfl, rfl, rfl, by decide +kernel, rfl, by decide +kernel, by decide +kernel⟩
theorem ok_many_by_behind (F : Fun K "many_by_behind" "many_by_behind" s_many_by_behind f fd) (T : TC K mg) (C_many_of_text : Callee P w K mg base "many_of_text" 1 ["kind", "begin", "end", "counts"] (spMT K)) : FnOk P w K mg base CX0 2 f fd ["rule", "places", "counts"] (spM2 K behindM) := by
  refine F.ok sc_many_by_behind (fun vs H Q E h => ?_) (fun cdv A outer s H vs Q E hr h => ?_)
  · obtain ⟨B, v, u, y, r0, how, o, ot, i, j, k, l, m, rfl, _⟩ := h
    rfl
  · obtain ⟨B, v, u, y, r0, how, o, ot, i, j, k, l, m, rfl, ex, hv, hu, hy, sm, ⟨bi, bj, bk, bl⟩, q⟩ := h
    have hu64 : (A.deeper (envOfC "many_by_behind" (defScope s_many_by_behind) s.heap.objs.size f cdv)).units + 64 < cLine := hr.units
    have hu1 : (A.deeper (envOfC "many_by_behind" (defScope s_many_by_behind) s.heap.objs.size f cdv)).units + 1 < cLine := by omega
    refine ⟨_, (pss_cons (ps_asg (pv 1) (pg_tup (by rfl) (pgs_cons (pg_name (i := 3) sc_many_by_behind.nd rfl (Or.inl rfl)) (pgs_cons (pg_name (i := 4) sc_many_by_behind.nd rfl (Or.inl rfl)) (pgs_cons (pg_name (i := 5) sc_many_by_behind.nd rfl (Or.inl rfl)) (pgs_cons (pg_name (i := 6) sc_many_by_behind.nd rfl (Or.inl rfl)) pgs_nil))))))
      (pss_cons (ps_asg (pe_slice (sl_anyK K) (pv 0) (po_some pe_int) po_none) (pg_tup (by rfl) (pgs_cons (pg_name (i := 7) sc_many_by_behind.nd rfl (Or.inl rfl)) (pgs_cons (pg_name (i := 8) sc_many_by_behind.nd rfl (Or.inl rfl)) pgs_nil))))
      (pss_cons (ps_set (i := 9) sc_many_by_behind.nd rfl (Or.inl rfl) pe_int)
      (pss_cons (ps_for PassesOwn.never rfl (pi_range2 rfl T.m_range (pa_cons (pv 5) (pa_cons (pe_op (op_addK K) (pv 6) pe_int) pa_nil))) (pg_name (i := 10) sc_many_by_behind.nd rfl (Or.inl rfl)) (pss_cons (ps_set (i := 11) sc_many_by_behind.nd rfl (Or.inl rfl) (pe_dget2 hu1 (pv 2) (pe_tup (pa_cons (pv 7) (pa_cons (pv 3) (pa_cons (pv 4) (pa_cons (pv 5) (pa_cons (pv 10) pa_nil)))))) pe_int ⟨rfl, rfl, rfl, rfl⟩))
      (pss_one (ps_if (pt_cmpR op_gt (pv 11) pe_int (nomark _)) (pss_one (ps_aug (i := 9) sc_many_by_behind.nd rfl (Or.inl rfl) (pe_op op_mul (pv 11) (pe_callC C_many_of_text (hr.mono (by decide)) rfl pass0 (pa_cons (pv 8) (pa_cons (pv 10) (pa_cons (pv 6) (pa_cons (pv 2) pa_nil)))))) ip_add)) pss_nil))))
      (pss_one (ps_ret (pv 9))))))), ?_⟩

    have a : At Fm.pure B H B H := At.start (Ok.any ex)
    refine qv_unp4 a (ed_var rfl hu) fun B1 H1 e1 a1 => ?_
    refine qv_unp2 (i := o) (j := ot) a1 (ed_is (ed_slT (K := K) (ed_var rfl (hv.up e1)) (eo_some (K := K) ed_int) eo_none) (by rw [cut2])) fun B2 H2 e2 a2 => ?_
    refine qv_asg (P := DD K (.int 0)) a2 ed_int fun v3 B3 H3 e3 a3 h3 => ?_
    obtain rfl := dd_int h3
    have e13 := (e1.trans e2).trans e3
    let fz : Nat → Int := fun c : Nat => posM (atG m [o, i, j, k, k + (c : Int)]) (textM m ot (k + (c : Int)) l)
    refine qd_forR2 (lo := k) (n := l + 1) a3 (eds_cons (ed_var rfl (.int k)) (eds_cons (ed_op (ed_var rfl (.int l)) ed_int rd_add) eds_nil)) (by omega) (fun c σ' B' => Ex B B' ∧ ∃ o1 o2, σ' = [some v, some u, some y, some (.int i), some (.int j), some (.int k), some (.int l), some (.int o), some (.int ot), some (.int (accM fz c)), o1, o2]) (fun B4 e4 => ⟨e13.trans e4, _, _, rfl⟩) (fun Bb c σ' B4 H4 e0 hc e4 a4 hi => ?_) (fun σ' B4 H4 e4 a4 hi => ?_)
    · obtain ⟨eB, o1, o2, rfl⟩ := hi
      refine qv_asg (P := DD K (.int (atG m [o, i, j, k, k + (c : Int)]))) a4 (ed_dget2 (Dx.ev_var (P := DicV m) rfl upc_dic (upc_dic _ _ _ eB hy)) (ev_keyT (K := K) (k := [o, i, j, k, k + (c : Int)]) (eds_cons (ed_var rfl (.int o)) (eds_cons (ed_var rfl (.int _)) (eds_cons (ed_var rfl (.int _)) (eds_cons (ed_var rfl (.int _)) (eds_cons (ed_var rfl (.int _)) eds_nil))))))) fun v5 B5 H5 e5 a5 h5 => ?_
      obtain rfl := dd_int h5
      have s0 := accM_succ fz c
      refine sv_if (b := decide (0 < atG m [o, i, j, k, k + (c : Int)])) a5 (et_is (et_cmp (K := K) (ed_op (ed_var rfl (.int _)) ed_int rd_gt)) rfl) (fun hb B6 H6 e6 a6 => ?_) (fun hb B6 H6 e6 a6 => ?_)
      · have hb' := of_decide_eq_true hb
        refine sv_aug (x := accM fz c) (y := atG m [o, i, j, k, k + (c : Int)] * textM m ot (k + (c : Int)) l) a6 rfl (ed_op (ed_var rfl (.int _)) (ed_MT (ed_var rfl (.int ot)) (ed_var rfl (.int _)) (ed_var rfl (.int _)) (Dx.ev_var (P := DicV m) rfl upc_dic (upc_dic _ _ _ ((eB.trans e5).trans e6) hy)) (by omega)) (rd_mul (.inl (sm _)))) fun B7 H7 e7 a7 => ?_
        refine ⟨B7, ((e4.trans e5).trans e6).trans e7, a7, ((eB.trans e5).trans e6).trans e7, some (.int (k + (c : Int))), some (.int (atG m [o, i, j, k, k + (c : Int)])), ?_⟩
        rw [s0, show fz c = atG m [o, i, j, k, k + (c : Int)] * textM m ot (k + (c : Int)) l from if_pos hb']
        rfl
      · have hb' := of_decide_eq_false hb
        refine ⟨B6, (e4.trans e5).trans e6, a6, (eB.trans e5).trans e6, some (.int (k + (c : Int))), some (.int (atG m [o, i, j, k, k + (c : Int)])), ?_⟩
        rw [s0, show fz c = 0 from if_neg hb', Int.add_zero]
        rfl
    · obtain ⟨eB, o1, o2, rfl⟩ := hi
      refine sv_ret (P := DD K (.int (behindM m o ot i j k l))) a4 (ed_var rfl (.int _)) fun v5 B5 H5 e5 a5 h5 => ?_
      obtain rfl := dd_int h5
      exact q _ _ a5.st
end
end K12

namespace K12
open PySem PySem.Spec PyProof.Rows L2 Evl Ex Dx
open PySem.PyData (strOk)
section
variable {P : Program} {w : World} {K : PySem.W.Frag} {mg : Str → Option Value} {base : Heap} {f : Addr} {fd : FuncData}
theorem sd_forR2 {F : Fm} {σ : L2.St} {B0 H0 B H : Hp} {D : Ends} {tb : TS} {p : Nat} {ta : TA} {lo n : Int} (a : At F B0 H0 B H) (h : EDs F K ta σ B [.int lo, .int n]) (hn : (-4611686018427387904 ≤ lo ∧ lo < 4611686018427387904) ∧ -4611686018427387904 ≤ n ∧ n < 4611686018427387904) (I : Nat → L2.St → Hp → Prop) (h0 : ∀ B1, Ex B B1 → I 0 σ B1)
    (hs : ∀ Bb (i : Nat) σ' B1 H1, Ex B Bb → lo + (i : Int) < n → Ex Bb B1 → At F B0 H0 B1 H1 → I i σ' B1 → tb { D with nx := Lp F B0 H0 Bb (I (i + 1)), ct := Lp F B0 H0 Bb (I (i + 1)), bk := D.nx } (σ'.set p (some (.int (lo + (i : Int))))) H1)
    (hd : ∀ σ' B1 H1, Ex B B1 → At F B0 H0 B1 H1 → I (n - lo).toNat σ' B1 → D.nx σ' H1) : tFor (iRng2 ta) (gName p) tb D σ H :=
  qd_forR2 (tz := fun E => D.nx) (D := D) a h hn I h0 hs hd
def wrapIn (m : Mp) (o ot i j k l : Int) (c : Nat) : Int := accM (fun d : Nat => posM (atG m [o, i, i + (c : Int), k + (d : Int), l]) (atG m [ot, i + (c : Int), j, k, k + (d : Int)])) (l + 1 - k).toNat
def wrapM (m : Mp) (o ot i j k l : Int) : Int := accM (wrapIn m o ot i j k l) (j + 1 - i).toNat
abbrev s_many_by_wrap : Stmt := topS 35
abbrev N_many_by_wrap : List Str := ["rule", "places", "counts", "i", "g", "h", "l", "one", "other", "total", "j", "k", "many"]
theorem sc_many_by_wrap : FnScope N_many_by_wrap ["rule", "places", "counts"] (defScope s_many_by_wrap) := ⟨rfl, rfl, rfl, by decide +kernel, rfl, by decide +kernel, by decide +kernel⟩
theorem ok_many_by_wrap (F : Fun K "many_by_wrap" "many_by_wrap" s_many_by_wrap f fd) (T : TC K mg) : FnOk P w K mg base CX0 1 f fd ["rule", "places", "counts"] (spM2 K wrapM) := by
  refine F.ok sc_many_by_wrap (fun vs H Q E h => ?_) (fun cdv A outer s H vs Q E hr h => ?_)
  · obtain ⟨B, v, u, y, r0, how, o, ot, i, j, k, l, m, rfl, _⟩ := h
    rfl
  · obtain ⟨B, v, u, y, r0, how, o, ot, i, j, k, l, m, rfl, ex, hv, hu, hy, sm, ⟨bi, bj, bk, bl⟩, q⟩ := h
    have hu64 : (A.deeper (envOfC "many_by_wrap" (defScope s_many_by_wrap) s.heap.objs.size f cdv)).units + 64 < cLine := hr.units
    have hu1 : (A.deeper (envOfC "many_by_wrap" (defScope s_many_by_wrap) s.heap.objs.size f cdv)).units + 1 < cLine := by omega
    refine ⟨_, (pss_cons (ps_asg (pv 1) (pg_tup (by rfl) (pgs_cons (pg_name (i := 3) sc_many_by_wrap.nd rfl (Or.inl rfl)) (pgs_cons (pg_name (i := 4) sc_many_by_wrap.nd rfl (Or.inl rfl)) (pgs_cons (pg_name (i := 5) sc_many_by_wrap.nd rfl (Or.inl rfl)) (pgs_cons (pg_name (i := 6) sc_many_by_wrap.nd rfl (Or.inl rfl)) pgs_nil))))))
      (pss_cons (ps_asg (pe_slice (sl_anyK K) (pv 0) (po_some pe_int) po_none) (pg_tup (by rfl) (pgs_cons (pg_name (i := 7) sc_many_by_wrap.nd rfl (Or.inl rfl)) (pgs_cons (pg_name (i := 8) sc_many_by_wrap.nd rfl (Or.inl rfl)) pgs_nil))))
      (pss_cons (ps_set (i := 9) sc_many_by_wrap.nd rfl (Or.inl rfl) pe_int)
      (pss_cons (ps_for PassesOwn.never rfl (pi_range2 rfl T.m_range (pa_cons (pv 3) (pa_cons (pe_op (op_addK K) (pv 4) pe_int) pa_nil))) (pg_name (i := 10) sc_many_by_wrap.nd rfl (Or.inl rfl)) (pss_one (ps_for PassesOwn.never rfl (pi_range2 rfl T.m_range (pa_cons (pv 5) (pa_cons (pe_op (op_addK K) (pv 6) pe_int) pa_nil))) (pg_name (i := 11) sc_many_by_wrap.nd rfl (Or.inl rfl)) (pss_cons (ps_set (i := 12) sc_many_by_wrap.nd rfl (Or.inl rfl) (pe_dget2 hu1 (pv 2) (pe_tup (pa_cons (pv 7) (pa_cons (pv 3) (pa_cons (pv 10) (pa_cons (pv 11) (pa_cons (pv 6) pa_nil)))))) pe_int ⟨rfl, rfl, rfl, rfl⟩))
      (pss_one (ps_if (pt_cmpR op_gt (pv 12) pe_int (nomark _)) (pss_one (ps_aug (i := 9) sc_many_by_wrap.nd rfl (Or.inl rfl) (pe_op op_mul (pv 12) (pe_dget2 hu1 (pv 2) (pe_tup (pa_cons (pv 8) (pa_cons (pv 10) (pa_cons (pv 4) (pa_cons (pv 5) (pa_cons (pv 11) pa_nil)))))) pe_int ⟨rfl, rfl, rfl, rfl⟩)) ip_add)) pss_nil))))))
      (pss_one (ps_ret (pv 9))))))), ?_⟩

    have a : At Fm.pure B H B H := At.start (Ok.any ex)
    refine qv_unp4 a (ed_var rfl hu) fun B1 H1 e1 a1 => ?_
    refine qv_unp2 (i := o) (j := ot) a1 (ed_is (ed_slT (K := K) (ed_var rfl (hv.up e1)) (eo_some (K := K) ed_int) eo_none) (by rw [cut2])) fun B2 H2 e2 a2 => ?_
    refine qv_asg (P := DD K (.int 0)) a2 ed_int fun v3 B3 H3 e3 a3 h3 => ?_
    obtain rfl := dd_int h3
    have e13 := (e1.trans e2).trans e3
    refine qd_forR2 (lo := i) (n := j + 1) a3 (eds_cons (ed_var rfl (.int i)) (eds_cons (ed_op (ed_var rfl (.int j)) ed_int rd_add) eds_nil)) (by omega) (fun c σ' B' => Ex B B' ∧ ∃ o1 o2 o3, σ' = [some v, some u, some y, some (.int i), some (.int j), some (.int k), some (.int l), some (.int o), some (.int ot), some (.int (accM (wrapIn m o ot i j k l) c)), o1, o2, o3]) (fun B4 e4 => ⟨e13.trans e4, _, _, _, rfl⟩) (fun Bb c σ' B4 H4 e0 hc e4 a4 hi => ?_) (fun σ' B4 H4 e4 a4 hi => ?_)
    · obtain ⟨eB, o1, o2, o3, rfl⟩ := hi
      let fz : Nat → Int := fun d : Nat => posM (atG m [o, i, i + (c : Int), k + (d : Int), l]) (atG m [ot, i + (c : Int), j, k, k + (d : Int)])
      refine sd_forR2 (K := K) (lo := k) (n := l + 1) a4 (eds_cons (ed_var rfl (.int k)) (eds_cons (ed_op (ed_var rfl (.int l)) ed_int rd_add) eds_nil)) (by omega) (fun d σ' B' => Ex Bb B' ∧ Ex B B' ∧ ∃ o2 o3, σ' = [some v, some u, some y, some (.int i), some (.int j), some (.int k), some (.int l), some (.int o), some (.int ot), some (.int (accM (wrapIn m o ot i j k l) c + accM fz d)), some (.int (i + (c : Int))), o2, o3]) (fun B5 e5 => ⟨e4.trans e5, eB.trans e5, o2, o3, ?_⟩) (fun Bc d σ' B5 H5 e0 hd e5 a5 hi => ?_) (fun σ' B5 H5 e5 a5 hi => ?_)
      · rw [show accM fz 0 = 0 from rfl, Int.add_zero]
        rfl
      · obtain ⟨ebb, eB5, o2, o3, rfl⟩ := hi
        refine qv_asg (P := DD K (.int (atG m [o, i, i + (c : Int), k + (d : Int), l]))) a5 (ed_dget2 (Dx.ev_var (P := DicV m) rfl upc_dic (upc_dic _ _ _ eB5 hy)) (ev_keyT (K := K) (k := [o, i, i + (c : Int), k + (d : Int), l]) (eds_cons (ed_var rfl (.int o)) (eds_cons (ed_var rfl (.int _)) (eds_cons (ed_var rfl (.int _)) (eds_cons (ed_var rfl (.int _)) (eds_cons (ed_var rfl (.int _)) eds_nil))))))) fun v6 B6 H6 e6 a6 h6 => ?_
        obtain rfl := dd_int h6
        have s0 := accM_succ fz d
        refine sv_if (b := decide (0 < atG m [o, i, i + (c : Int), k + (d : Int), l])) a6 (et_is (et_cmp (K := K) (ed_op (ed_var rfl (.int _)) ed_int rd_gt)) rfl) (fun hb B7 H7 e7 a7 => ?_) (fun hb B7 H7 e7 a7 => ?_)
        · have hb' := of_decide_eq_true hb
          refine sv_aug (K := K) (x := accM (wrapIn m o ot i j k l) c + accM fz d) (y := atG m [o, i, i + (c : Int), k + (d : Int), l] * atG m [ot, i + (c : Int), j, k, k + (d : Int)]) a7 rfl (ed_op (ed_var rfl (.int _)) (ed_dget2 (Dx.ev_var (P := DicV m) rfl upc_dic (upc_dic _ _ _ ((eB5.trans e6).trans e7) hy)) (ev_keyT (K := K) (k := [ot, i + (c : Int), j, k, k + (d : Int)]) (eds_cons (ed_var rfl (.int ot)) (eds_cons (ed_var rfl (.int _)) (eds_cons (ed_var rfl (.int _)) (eds_cons (ed_var rfl (.int _)) (eds_cons (ed_var rfl (.int _)) eds_nil))))))) (rd_mul (.inl (sm _)))) fun B8 H8 e8 a8 => ?_
          refine ⟨B8, ((e5.trans e6).trans e7).trans e8, a8, ((ebb.trans e6).trans e7).trans e8, ((eB5.trans e6).trans e7).trans e8, some (.int (k + (d : Int))), some (.int (atG m [o, i, i + (c : Int), k + (d : Int), l])), ?_⟩
          rw [s0, show fz d = atG m [o, i, i + (c : Int), k + (d : Int), l] * atG m [ot, i + (c : Int), j, k, k + (d : Int)] from if_pos hb', ← Int.add_assoc]
          rfl
        · have hb' := of_decide_eq_false hb
          refine ⟨B7, (e5.trans e6).trans e7, a7, (ebb.trans e6).trans e7, (eB5.trans e6).trans e7, some (.int (k + (d : Int))), some (.int (atG m [o, i, i + (c : Int), k + (d : Int), l])), ?_⟩
          rw [s0, show fz d = 0 from if_neg hb', Int.add_zero]
          rfl
      · obtain ⟨ebb, eB5, o2, o3, rfl⟩ := hi
        refine ⟨B5, ebb, a5, eB5, some (.int (i + (c : Int))), o2, o3, ?_⟩
        rw [accM_succ (wrapIn m o ot i j k l) c]
        rfl
    · obtain ⟨eB, o1, o2, o3, rfl⟩ := hi
      refine sv_ret (P := DD K (.int (wrapM m o ot i j k l))) a4 (ed_var rfl (.int _)) fun v5 B5 H5 e5 a5 h5 => ?_
      obtain rfl := dd_int h5
      exact q _ _ a5.st
end
end K12

namespace K12
open PySem PySem.Spec PyProof.Rows L2 Evl Ex Dx
open PySem.PyData (strOk)
section
variable {P : Program} {w : World} {K : PySem.W.Frag} {mg : Str → Option Value} {base : Heap} {f : Addr} {fd : FuncData}
theorem qv_unp3 {F : Fm} {σ : L2.St} {B0 H0 B H : Hp} {D : Ends} {tz : TS} {te : TE} {i j k : Int} {p1 p2 p3 : Nat} (a : At F B0 H0 B H) (h : ED F K te σ B (.tuple [.int i, .int j, .int k]))
    (q : ∀ B1 H1, Ex B B1 → At F B0 H0 B1 H1 → tz D (((σ.set p1 (some (.int i))).set p2 (some (.int j))).set p3 (some (.int k))) H1) :
    tSeq (tAsg te (gTup K 3 (gCons (gName p1) (gCons (gName p2) (gCons (gName p3) gNil))))) tz D σ H := h B (Ex.refl B) H a.j _ fun v B1 H1 s jj p => by
  obtain ⟨b, rfl, hb⟩ := sq_ints (ns := [i, j, k]) (Dd.up p jj.e)
  exact ⟨b, _, rfl, hb, rfl, _, _, rfl, _, _, rfl, _, _, rfl, rfl, q B1 H1 s.bb (a.next s jj)⟩
def wrdM (ts : List Str) (s : Str) (b wd em : Int) : Int := if (decide (wd = 1) && (decide (em = 0) && (ts.getD b.toNat "" == s))) = true then 1 else 0
def wordM (ts : List Str) (how s : Str) (i j k l : Int) : Int := if (how == ("left" : Str)) = true then wrdM ts s i (j - i) (l - k) else wrdM ts s k (l - k) (j - i)
/-- rule, text, places -/
def spMW (K : PySem.W.Frag) : Sp := fun vs H Q _ => ∃ (B : Hp) (v t u : V) (r0 : PyData) (how s : Str) (ts : List Str) (i j k l : Int), vs = [v, t, u] ∧ Ex B H ∧ SeqAt.shaped (.str how) = true ∧ SeqAt.shaped (.str s) = true ∧ (∀ x ∈ ts, SeqAt.shaped (.str x) = true) ∧ Dd K B v (.tuple [r0, .str how, .str s]) ∧ Dd K B t (.tuple (ts.map .str)) ∧ Dd K B u (.tuple [.int i, .int j, .int k, .int l]) ∧
  (0 ≤ i ∧ i ≤ j ∧ j ≤ k ∧ k ≤ l ∧ l ≤ (ts.length : Nat)) ∧ ∀ B' H', Step (fun _ => False) B H B' H' → Q (.int (wordM ts how s i j k l)) H'
abbrev s_many_by_word : Stmt := topS 33
abbrev N_many_by_word : List Str := ["rule", "text", "places", "i", "j", "k", "l", "begin", "width", "empty"]
theorem sc_many_by_word : FnScope N_many_by_word ["rule", "text", "places"] (defScope s_many_by_word) := ⟨rfl, rfl, rfl, by decide +kernel, rfl, by decide +kernel, by decide +kernel⟩
theorem ok_many_by_word (F : Fun K "many_by_word" "many_by_word" s_many_by_word f fd) (T : TC K mg) : FnOk P w K mg base CX0 1 f fd ["rule", "text", "places"] (spMW K) := by
  refine F.ok sc_many_by_word (fun vs H Q E h => ?_) (fun cdv A outer s H vs Q E hr h => ?_)
  · obtain ⟨B, v, t, u, r0, how, st, ts, i, j, k, l, rfl, _⟩ := h
    rfl
  · obtain ⟨B, v, t, u, r0, how, st, ts, i, j, k, l, rfl, ex, hsh, hss, hst, hv, ht, hu, ⟨b0, b1, b2, b3, b4⟩, q⟩ := h
    have hu64 : (A.deeper (envOfC "many_by_word" (defScope s_many_by_word) s.heap.objs.size f cdv)).units + 64 < cLine := hr.units
    refine ⟨_, (pss_cons (ps_asg (pv 2) (pg_tup (by rfl) (pgs_cons (pg_name (i := 3) sc_many_by_word.nd rfl (Or.inl rfl)) (pgs_cons (pg_name (i := 4) sc_many_by_word.nd rfl (Or.inl rfl)) (pgs_cons (pg_name (i := 5) sc_many_by_word.nd rfl (Or.inl rfl)) (pgs_cons (pg_name (i := 6) sc_many_by_word.nd rfl (Or.inl rfl)) pgs_nil))))))
      (pss_cons (ps_asg (pe_ifExp (pt_cmpR (op_eqDK K hu64) (pe_ix (ix_seqK K) (pv 0) pe_int (fun _ _ => rfl)) pe_str (nomark _)) (pe_tup (pa_cons (pv 3) (pa_cons (pe_op op_sub (pv 4) (pv 3)) (pa_cons (pe_op op_sub (pv 6) (pv 5)) pa_nil)))) (pe_tup (pa_cons (pv 5) (pa_cons (pe_op op_sub (pv 6) (pv 5)) (pa_cons (pe_op op_sub (pv 4) (pv 3)) pa_nil))))) (pg_tup (by rfl) (pgs_cons (pg_name (i := 7) sc_many_by_word.nd rfl (Or.inl rfl)) (pgs_cons (pg_name (i := 8) sc_many_by_word.nd rfl (Or.inl rfl)) (pgs_cons (pg_name (i := 9) sc_many_by_word.nd rfl (Or.inl rfl)) pgs_nil)))))
      (pss_one (ps_ret (pe_ifExp (PW.pt (pw_and (pt_cmpR (op_eqDK K hu64) (pv 8) pe_int (nomark _)) (pw_and (pt_cmpR (op_eqDK K hu64) (pv 9) pe_int (nomark _)) (pw_and1 (pt_cmpR (op_eqDK K hu64) (pe_ix (ix_seqK K) (pv 1) (pv 7) (fun _ _ => rfl)) (pe_ix (ix_seqK K) (pv 0) pe_int (fun _ _ => rfl)) (nomark _)))))) pe_int pe_int))))), ?_⟩

    have a : At Fm.pure B H B H := At.start (Ok.any ex)
    obtain ⟨b, wd, em, hlt, hM, hL, hR⟩ : ∃ b wd em : Int, (wd = 1 → 0 ≤ b ∧ b < (ts.length : Nat)) ∧ wordM ts how st i j k l = wrdM ts st b wd em ∧ ((how == ("left" : Str)) = true → b = i ∧ wd = j - i ∧ em = l - k) ∧ ((how == ("left" : Str)) = false → b = k ∧ wd = l - k ∧ em = j - i) := by
      cases hl : (how == ("left" : Str)) with
      | true => exact ⟨i, j - i, l - k, fun h => ⟨by omega, by omega⟩, if_pos hl, fun _ => ⟨rfl, rfl, rfl⟩, fun h => nomatch h⟩
      | false => exact ⟨k, l - k, j - i, fun h => ⟨by omega, by omega⟩, if_neg (by rw [hl]; exact Bool.false_ne_true), (fun h => nomatch h), fun _ => ⟨rfl, rfl, rfl⟩⟩
    refine qv_unp4 a (ed_var rfl hu) fun B1 H1 e1 a1 => ?_
    refine qv_unp3 (i := b) (j := wd) (k := em) a1 (ev_if (b := how == ("left" : Str)) (et_is (et_cmp (ed_op (ed_op (ed_var rfl (hv.up e1)) ed_int (rd_ixT at3_1)) (ed_str (by decide)) (rd_eqD hsh (by decide +kernel)))) (eqv_str _ _)) (fun hb => ?_) (fun hb => ?_)) fun B2 H2 e2 a2 => ?_
    · obtain ⟨rfl, rfl, rfl⟩ := hL hb
      exact ed_tup (eds_cons (ed_var rfl (.int _)) (eds_cons (ed_op (ed_var rfl (.int _)) (ed_var rfl (.int _)) rd_sub) (eds_cons (ed_op (ed_var rfl (.int _)) (ed_var rfl (.int _)) rd_sub) eds_nil)))
    · obtain ⟨rfl, rfl, rfl⟩ := hR hb
      exact ed_tup (eds_cons (ed_var rfl (.int _)) (eds_cons (ed_op (ed_var rfl (.int _)) (ed_var rfl (.int _)) rd_sub) (eds_cons (ed_op (ed_var rfl (.int _)) (ed_var rfl (.int _)) rd_sub) eds_nil)))
    have eqI : ∀ B2 (σ : L2.St) (p : Nat) (x y : Int), σ[p]? = some (some (.int x)) → ETt Fm.pure (tTest (tOp (rEqD K) (tVar p) (tC (.int y)))) σ B2 (decide (x = y)) := fun B2 σ p x y hp => et_is (et_cmp (ed_op (ed_var hp (.int x)) ed_int (rd_eqD rfl rfl))) (by rw [eqv_int, Bool.eq_iff_iff, beq_iff_eq, decide_eq_true_eq])
    refine sv_ret (P := DD K (.int (wrdM ts st b wd em))) a2 (ev_if (b := decide (wd = 1) && (decide (em = 0) && (ts.getD b.toNat "" == st))) (et_and (eqI _ _ 8 wd 1 rfl) fun hw => et_and (eqI _ _ 9 em 0 rfl) fun _ => ?_) (fun hb => ?_) (fun hb => ?_)) fun v5 B5 H5 e5 a5 h5 => ?_
    · obtain ⟨c0, c1⟩ := hlt (of_decide_eq_true hw)
      obtain ⟨p, rfl⟩ := Int.eq_ofNat_of_zero_le c0
      have hp : p < ts.length := by omega
      have hg : ts[p]? = some (ts.getD p "") := by rw [List.getD_eq_getElem?_getD, List.getElem?_eq_getElem hp]; rfl
      have hi : (ts.map PyData.str)[p]? = some (.str (ts.getD p "")) := by rw [List.getElem?_map, hg]; rfl
      exact et_is (et_cmp (ed_op (ed_op (ed_var rfl (ht.up (e1.trans e2))) (ed_var rfl (.int _)) (rd_ixT (atI_nat (j := p) hi))) (ed_op (ed_var rfl (hv.up (e1.trans e2))) ed_int (rd_ixT at3_2)) (rd_eqD (hst _ (List.mem_of_getElem? hg)) hss))) (eqv_str _ _)
    · rw [show wrdM ts st b wd em = 1 from if_pos hb]
      exact ed_int
    · rw [show wrdM ts st b wd em = 0 from if_neg (by rw [hb]; exact Bool.false_ne_true)]
      exact ed_int
    · obtain rfl := dd_int h5
      rw [← hM]
      exact q _ _ a5.st
end
end K12

namespace K12
open PySem PySem.Spec PyProof.Rows L2 Evl Ex Dx
open PySem.PyData (strOk)
section
variable {P : Program} {w : World} {K : PySem.W.Frag} {mg : Str → Option Value} {base : Heap} {f : Addr} {fd : FuncData}
def manyM (ts : List Str) (m : Mp) (r : PyData) (i j k l : Int) : Int := match r with
  | .tuple [_, .str how, .str s] => wordM ts how s i j k l
  | .tuple [_, .str how, .int o] => oneM m how o i j k l
  | .tuple [_, .str how, .int o, .int ot] => if (how == ("wrap" : Str)) = true then wrapM m o ot i j k l else if (how == ("ahead" : Str)) = true then aheadM m o ot i j k l else behindM m o ot i j k l
  | _ => 0
def RuleIs (r : PyData) : Prop := (∃ r0 how s, r = .tuple [r0, .str how, .str s] ∧ inS how WSH = true ∧ SeqAt.shaped (.str s) = true) ∨ (∃ r0 how o, r = .tuple [r0, .str how, .int o] ∧ inS how OSH = true) ∨ ∃ r0 how o ot, r = .tuple [r0, .str how, .int o, .int ot] ∧ inS how TSH = true
theorem inS_mem {s : Str} {L : List Str} (h : inS s L = true) : s ∈ L := by
  obtain ⟨x, hx, e⟩ := List.any_eq_true.mp h
  rw [← beq_iff_eq.mp e]
  exact hx
theorem shWOT : ∀ x ∈ WSH ++ (OSH ++ TSH), SeqAt.shaped (.str x) = true := by decide +kernel
theorem notW1 : ∀ x ∈ OSH, inS x WSH = false := by decide +kernel
theorem notW2 : ∀ x ∈ TSH, inS x WSH = false ∧ inS x OSH = false := by decide +kernel
/-- rule, text, places, counts -/
def spMB (K : PySem.W.Frag) : Sp := fun vs H Q _ => ∃ (B : Hp) (v t u y : V) (r : PyData) (ts : List Str) (i j k l : Int) (m : Mp), vs = [v, t, u, y] ∧ Ex B H ∧ RuleIs r ∧ (∀ x ∈ ts, SeqAt.shaped (.str x) = true) ∧ ts.length ≤ 100 ∧ Small m ∧ Dd K B v r ∧ Dd K B t (.tuple (ts.map .str)) ∧ Dd K B u (.tuple [.int i, .int j, .int k, .int l]) ∧ DicV m y B ∧
  (0 ≤ i ∧ i ≤ j ∧ j ≤ k ∧ k ≤ l ∧ l ≤ (ts.length : Nat)) ∧ ∀ B' H', Step (fun _ => False) B H B' H' → Q (.int (manyM ts m r i j k l)) H'
section
variable {F : Fm} {σ : L2.St} {B : Hp} {E : XK} {t1 t2 t3 : TE} {r0 : PyData} {how s : Str} {o ot i j k l : Int} {ts : List Str} {m : Mp}
theorem ed_MW (h1 : ED F K t1 σ B (.tuple [r0, .str how, .str s])) (h2 : ED F K t2 σ B (.tuple (ts.map .str))) (h3 : ED F K t3 σ B (.tuple [.int i, .int j, .int k, .int l])) (p1 : SeqAt.shaped (.str how) = true) (p2 : SeqAt.shaped (.str s) = true) (p3 : ∀ x ∈ ts, SeqAt.shaped (.str x) = true) (p4 : 0 ≤ i ∧ i ≤ j ∧ j ≤ k ∧ k ≤ l ∧ l ≤ (ts.length : Nat)) :
    ED F K (tCall (spMW K) [] E (tCons t1 (tCons t2 (tCons t3 tNil)))) σ B (.int (wordM ts how s i j k l)) :=
  ev_call (evs_cons upc_dd h1 (evs_cons upc_dd h2 (evs_cons upc_dd h3 evs_nil))) fun B1 e0 H us jj hu Q q => by
    obtain ⟨v1, _, rfl, d1, v2, _, rfl, d2, v3, _, rfl, d3, rfl⟩ := hu
    exact ⟨B1, v1, v2, v3, r0, how, s, ts, i, j, k, l, rfl, jj.e, p1, p2, p3, d1, d2, d3, p4, fun B' H' s => q _ B' H' s.pure (jj.pure s) (.int _)⟩
theorem ed_M1 (h1 : ED F K t1 σ B (.tuple [r0, .str how, .int o])) (h2 : ED F K t2 σ B (.tuple [.int i, .int j, .int k, .int l])) (h3 : EV F t3 σ B (DicV m)) (p1 : SeqAt.shaped (.str how) = true) (p4 : (0 ≤ i ∧ i ≤ 100) ∧ (0 ≤ j ∧ j ≤ 100) ∧ (0 ≤ k ∧ k ≤ 100) ∧ 0 ≤ l ∧ l ≤ 100) :
    ED F K (tCall (spM1 K) [] E (tCons t1 (tCons t2 (tCons t3 tNil)))) σ B (.int (oneM m how o i j k l)) :=
  ev_call (evs_cons upc_dd h1 (evs_cons upc_dd h2 (evs_cons upc_dic h3 evs_nil))) fun B1 e0 H us jj hu Q q => by
    obtain ⟨v1, _, rfl, d1, v2, _, rfl, d2, v3, _, rfl, d3, rfl⟩ := hu
    exact ⟨B1, v1, v2, v3, r0, how, o, i, j, k, l, m, rfl, jj.e, p1, d1, d2, d3, p4, fun B' H' s => q _ B' H' s.pure (jj.pure s) (.int _)⟩
theorem ed_M2 {z : Mp → Int → Int → Int → Int → Int → Int → Int} (h1 : ED F K t1 σ B (.tuple [r0, .str how, .int o, .int ot])) (h2 : ED F K t2 σ B (.tuple [.int i, .int j, .int k, .int l])) (h3 : EV F t3 σ B (DicV m)) (p1 : Small m) (p4 : (0 ≤ i ∧ i ≤ 100) ∧ (0 ≤ j ∧ j ≤ 100) ∧ (0 ≤ k ∧ k ≤ 100) ∧ 0 ≤ l ∧ l ≤ 100) :
    ED F K (tCall (spM2 K z) [] E (tCons t1 (tCons t2 (tCons t3 tNil)))) σ B (.int (z m o ot i j k l)) :=
  ev_call (evs_cons upc_dd h1 (evs_cons upc_dd h2 (evs_cons upc_dic h3 evs_nil))) fun B1 e0 H us jj hu Q q => by
    obtain ⟨v1, _, rfl, d1, v2, _, rfl, d2, v3, _, rfl, d3, rfl⟩ := hu
    exact ⟨B1, v1, v2, v3, r0, how, o, ot, i, j, k, l, m, rfl, jj.e, d1, d2, d3, p1, p4, fun B' H' s => q _ B' H' s.pure (jj.pure s) (.int _)⟩
end
abbrev s_many_by : Stmt := topS 32
abbrev N_many_by : List Str := ["rule", "text", "places", "counts", "shape"]
theorem sc_many_by : FnScope N_many_by ["rule", "text", "places", "counts"] (defScope s_many_by) := ⟨rfl, rfl, rfl, by decide +kernel, rfl, by decide +kernel, by decide +kernel⟩
theorem ok_many_by (F : Fun K "many_by" "many_by" s_many_by f fd) (T : TC K mg) (C_many_by_word : Callee P w K mg base "many_by_word" 1 ["rule", "text", "places"] (spMW K)) (C_many_by_one : Callee P w K mg base "many_by_one" 2 ["rule", "places", "counts"] (spM1 K)) (C_many_by_wrap : Callee P w K mg base "many_by_wrap" 1 ["rule", "places", "counts"] (spM2 K wrapM))
    (C_many_by_ahead : Callee P w K mg base "many_by_ahead" 2 ["rule", "places", "counts"] (spM2 K aheadM)) (C_many_by_behind : Callee P w K mg base "many_by_behind" 2 ["rule", "places", "counts"] (spM2 K behindM)) : FnOk P w K mg base CX0 3 f fd ["rule", "text", "places", "counts"] (spMB K) := by
  refine F.ok sc_many_by (fun vs H Q E h => ?_) (fun cdv A outer s H vs Q E hr h => ?_)
  · obtain ⟨B, v, t, u, y, r, ts, i, j, k, l, m, rfl, _⟩ := h
    rfl
  · obtain ⟨B, v, t, u, y, r, ts, i, j, k, l, m, rfl, ex, hr0, hst, hlen, sm, hv, ht, hu, hy, bd, q⟩ := h
    have hu64 : (A.deeper (envOfC "many_by" (defScope s_many_by) s.heap.objs.size f cdv)).units + 64 < cLine := hr.units
    obtain ⟨WW, gW, hW⟩ := T.w_WORD.ex
    obtain ⟨WO, gO, hO⟩ := T.w_ONE.ex
    refine ⟨_, (pss_cons (ps_set (i := 4) sc_many_by.nd rfl (Or.inl rfl) (pe_ix (ix_seqK K) (pv 0) pe_int (fun _ _ => rfl)))
      (pss_cons (ps_if (pt_cmpR (op_inK K) (pv 4) (pe_glob (v := .ref WW) rfl gW rfl) (by rfl)) (pss_one (ps_ret (pe_callC C_many_by_word (hr.mono (by decide)) rfl pass0 (pa_cons (pv 0) (pa_cons (pv 1) (pa_cons (pv 2) pa_nil)))))) pss_nil)
      (pss_cons (ps_if (pt_cmpR (op_inK K) (pv 4) (pe_glob (v := .ref WO) rfl gO rfl) (by rfl)) (pss_one (ps_ret (pe_callC C_many_by_one (hr.mono (by decide)) rfl pass0 (pa_cons (pv 0) (pa_cons (pv 2) (pa_cons (pv 3) pa_nil)))))) pss_nil)
      (pss_cons (ps_if (pt_cmpR (op_eqDK K hu64) (pv 4) pe_str (nomark _)) (pss_one (ps_ret (pe_callC C_many_by_wrap (hr.mono (by decide)) rfl pass0 (pa_cons (pv 0) (pa_cons (pv 2) (pa_cons (pv 3) pa_nil)))))) pss_nil)
      (pss_cons (ps_if (pt_cmpR (op_eqDK K hu64) (pv 4) pe_str (nomark _)) (pss_one (ps_ret (pe_callC C_many_by_ahead (hr.mono (by decide)) rfl pass0 (pa_cons (pv 0) (pa_cons (pv 2) (pa_cons (pv 3) pa_nil)))))) pss_nil)
      (pss_one (ps_ret (pe_callC C_many_by_behind (hr.mono (by decide)) rfl pass0 (pa_cons (pv 0) (pa_cons (pv 2) (pa_cons (pv 3) pa_nil))))))))))), ?_⟩

    have a : At Fm.pure B H B H := At.start (Ok.any ex)
    have b100 : (0 ≤ i ∧ i ≤ 100) ∧ (0 ≤ j ∧ j ≤ 100) ∧ (0 ≤ k ∧ k ≤ 100) ∧ 0 ≤ l ∧ l ≤ 100 := by omega
    have fin : ∀ (n : Int) v1 B1 H1, At Fm.pure B H B1 H1 → DD K (.int n) v1 B1 → n = manyM ts m r i j k l → Q v1 H1 := fun n v1 B1 H1 a1 h1 en => by
      obtain rfl := dd_int h1
      rw [en]
      exact q _ _ a1.st
    rcases hr0 with ⟨r0, how, st, rfl, hin, hss⟩ | ⟨r0, how, o, rfl, hin⟩ | ⟨r0, how, o, ot, rfl, hin⟩
    · have hsh := shWOT how (List.mem_append_left _ (inS_mem hin))
      refine qv_asg (P := DD K (.str how)) a (ed_op (ed_var rfl hv) ed_int (rd_ixT at3_1)) fun v4 B1 H1 e1 a1 h1 => ?_
      refine qv_when (b := true) a1 (et_is (et_cmp (inST (ed_var rfl h1) (ed_v (hW B1)))) hin) (fun _ B2 H2 e2 a2 => ?_) (fun h => nomatch h)
      exact sv_ret (P := DD K (.int (wordM ts how st i j k l))) a2 (ed_MW (ed_var rfl (hv.up (e1.trans e2))) (ed_var rfl (ht.up (e1.trans e2))) (ed_var rfl (hu.up (e1.trans e2))) hsh hss hst bd) fun v5 B5 H5 e5 a5 h5 => fin _ _ _ _ a5 h5 rfl
    · have hsh := shWOT how (List.mem_append_right _ (List.mem_append_left _ (inS_mem hin)))
      refine qv_asg (P := DD K (.str how)) a (ed_op (ed_var rfl hv) ed_int (rd_ixT at3_1)) fun v4 B1 H1 e1 a1 h1 => ?_
      refine qv_when (b := false) a1 (et_is (et_cmp (inST (ed_var rfl h1) (ed_v (hW B1)))) (notW1 _ (inS_mem hin))) (fun h => nomatch h) (fun _ B2 H2 e2 a2 => ?_)
      refine qv_when (b := true) a2 (et_is (et_cmp (inST (ed_var rfl (Dd.up h1 e2)) (ed_v (hO B2)))) hin) (fun _ B3 H3 e3 a3 => ?_) (fun h => nomatch h)
      have e13 := (e1.trans e2).trans e3
      exact sv_ret (P := DD K (.int (oneM m how o i j k l))) a3 (ed_M1 (ed_var rfl (hv.up e13)) (ed_var rfl (hu.up e13)) (Dx.ev_var (P := DicV m) rfl upc_dic (upc_dic _ _ _ e13 hy)) hsh b100) fun v5 B5 H5 e5 a5 h5 => fin _ _ _ _ a5 h5 rfl
    · have hsh := shWOT how (List.mem_append_right _ (List.mem_append_right _ (inS_mem hin)))
      refine qv_asg (P := DD K (.str how)) a (ed_op (ed_var rfl hv) ed_int (rd_ixT at3_1)) fun v4 B1 H1 e1 a1 h1 => ?_
      refine qv_when (b := false) a1 (et_is (et_cmp (inST (ed_var rfl h1) (ed_v (hW B1)))) (notW2 _ (inS_mem hin)).1) (fun h => nomatch h) (fun _ B2 H2 e2 a2 => ?_)
      refine qv_when (b := false) a2 (et_is (et_cmp (inST (ed_var rfl (Dd.up h1 e2)) (ed_v (hO B2)))) (notW2 _ (inS_mem hin)).2) (fun h => nomatch h) (fun _ B3 H3 e3 a3 => ?_)
      have e13 := (e1.trans e2).trans e3
      have mm : manyM ts m (.tuple [r0, .str how, .int o, .int ot]) i j k l = if (how == ("wrap" : Str)) = true then wrapM m o ot i j k l else if (how == ("ahead" : Str)) = true then aheadM m o ot i j k l else behindM m o ot i j k l := rfl
      have dv : ∀ B5, Ex B B5 → ∀ (σ : L2.St), σ[3]? = some (some y) → EV Fm.pure (tVar 3) σ B5 (DicV m) := fun B5 e5 σ hσ => Dx.ev_var (P := DicV m) hσ upc_dic (upc_dic _ _ _ e5 hy)
      refine qv_when (b := how == ("wrap" : Str)) a3 (et_is (et_cmp (ed_op (ed_var rfl (Dd.up h1 (e2.trans e3))) (ed_str (by decide)) (rd_eqD hsh (by decide +kernel)))) (eqv_str _ _)) (fun hb B4 H4 e4 a4 => ?_) (fun hb B4 H4 e4 a4 => ?_)
      · have e14 := e13.trans e4
        refine sv_ret (P := DD K (.int (wrapM m o ot i j k l))) a4 (ed_M2 (ed_var rfl (hv.up e14)) (ed_var rfl (hu.up e14)) (dv _ e14 _ rfl) sm b100) fun v5 B5 H5 e5 a5 h5 => fin _ _ _ _ a5 h5 ?_
        rw [mm, if_pos hb]
      have n1 : ¬ (how == ("wrap" : Str)) = true := by rw [hb]; exact Bool.false_ne_true
      refine qv_when (b := how == ("ahead" : Str)) a4 (et_is (et_cmp (ed_op (ed_var rfl (Dd.up h1 ((e2.trans e3).trans e4))) (ed_str (by decide)) (rd_eqD hsh (by decide +kernel)))) (eqv_str _ _)) (fun hb5 B5 H5 e5 a5 => ?_) (fun hb5 B5 H5 e5 a5 => ?_)
      · have e15 := (e13.trans e4).trans e5
        refine sv_ret (P := DD K (.int (aheadM m o ot i j k l))) a5 (ed_M2 (ed_var rfl (hv.up e15)) (ed_var rfl (hu.up e15)) (dv _ e15 _ rfl) sm b100) fun v5 B6 H6 e6 a6 h6 => fin _ _ _ _ a6 h6 ?_
        rw [mm, if_neg n1, if_pos hb5]
      · have e15 := (e13.trans e4).trans e5
        have n2 : ¬ (how == ("ahead" : Str)) = true := by rw [hb5]; exact Bool.false_ne_true
        refine sv_ret (P := DD K (.int (behindM m o ot i j k l))) a5 (ed_M2 (ed_var rfl (hv.up e15)) (ed_var rfl (hu.up e15)) (dv _ e15 _ rfl) sm b100) fun v5 B6 H6 e6 a6 h6 => fin _ _ _ _ a6 h6 ?_
        rw [mm, if_neg n1, if_neg n2]
end
end K12

namespace K12
open PySem PySem.Spec PyProof.Rows L2 Evl Ex Dx
open PySem.PyData (strOk)
section
variable {P : Program} {w : World} {K : PySem.W.Frag} {mg : Str → Option Value} {base : Heap} {f : Addr} {fd : FuncData}
theorem item5 {d : PyData} {n w : Int} (h : itemD d n w = true) : ∃ a b c e f : Int, d = .tuple [.int a, .int b, .int c, .int e, .int f] ∧ 0 ≤ a ∧ a ≤ n - 1 ∧ 0 ≤ b ∧ b ≤ c ∧ c ≤ e ∧ e ≤ f ∧ f ≤ w := by
  cases d with
  | tuple xs =>
    match xs, h with
    | [x, y, z, u, v], h =>
      have h1 : (decide (([y, z, u, v] : List PyData).length = 4) && (inB x 0 (n - 1) && (inB y 0 w && (inB z (numI y) w && (inB u (numI z) w && (inB v (numI u) w && true)))))) = true := h
      simp only [Bool.and_eq_true] at h1
      obtain ⟨_, hx, hy, hz, hu, hv, _⟩ := h1
      obtain ⟨a, rfl, a0, a1⟩ := inB_is hx
      obtain ⟨b, rfl, b0, b1⟩ := inB_is hy
      obtain ⟨c, rfl, c0, c1⟩ := inB_is hz
      obtain ⟨e, rfl, e0, e1⟩ := inB_is hu
      obtain ⟨f, rfl, f0, f1⟩ := inB_is hv
      exact ⟨a, b, c, e, f, rfl, a0, a1, b0, c0, e0, f0, f1⟩
  | _ => cases h
def toldD (n : Int) (d : PyData) : Bool := match d with
  | .tuple [.int a, .int b, .int c, .int e, .int f] => decide (a = 0) && (decide (b = 0) && (decide (c = e) && decide (f = n)))
  | _ => false
def fTold : List PyData → PyData
  | [.tuple xs, .int n] => .bool (xs.any (toldD n))
  | _ => .none
def preTold (ds : List PyData) : Prop := ∃ xs n kk w, ds = [.tuple xs, .int n] ∧ ∀ d ∈ xs, itemD d kk w = true
theorem filter_any {α : Type} (l : List α) (p : α → Bool) : (!(l.filter p).isEmpty) = l.any p := by
  induction l with
  | nil => rfl
  | cons x l ih =>
    rw [List.filter_cons, List.any_cons]
    cases h : p x with
    | true => rw [if_pos rfl]; rfl
    | false => rw [if_neg Bool.false_ne_true, ih]; rfl
abbrev s_law_is_told : Stmt := topS 61
abbrev N_law_is_told : List Str := ["value", "n", "one"]
theorem sc_law_is_told : FnScope N_law_is_told ["value", "n"] (defScope s_law_is_told) := ⟨rfl, rfl, rfl, by decide +kernel, rfl, by decide +kernel, by decide +kernel⟩
theorem ok_law_is_told (F : Fun K "_law_is_told" "_law_is_told" s_law_is_told f fd) (T : TC K mg) : FnOk P w K mg base CX0 1 f fd ["value", "n"] (spF K preTold fTold) := by
  refine F.ok sc_law_is_told (fun vs H Q E h => ?_) (fun cdv A outer s H vs Q E hr h => ?_)
  · obtain ⟨B, ds, e, hd, ⟨xs, n, kk, w', rfl, _⟩, q⟩ := h
    exact hd.len
  · obtain ⟨B, ds, e, hd, ⟨xs, n, kk, w', rfl, hx⟩, q⟩ := h
    have hu64 : (A.deeper (envOfC "_law_is_told" (defScope s_law_is_told) s.heap.objs.size f cdv)).units + 64 < cLine := hr.units
    obtain ⟨v, v2, rfl, hv, hn⟩ := arg2 hd
    obtain rfl := dd_int hn
    refine ⟨_, (pss_one (ps_ret (pe_cmpR (op_neDK K hu64) (pe_lc (own := [("one", 2)]) rfl sc_law_is_told.nd (pi_seqK K (pv 0)) (blkOk_by (own := [("one", 2)]) (N := N_law_is_told) (sc := defScope s_law_is_told) (by decide +kernel)) (fun _ _ _ _ _ => pg_name (i := 2) sc_law_is_told.nd rfl (Or.inl rfl)) (fun _ _ _ _ _ => (pts_one (PW.pt (pw_and (pt_cmpR (op_eqDK K hu64) (pe_ix (ix_seqK K) (pv 2) pe_int (fun _ _ => rfl)) pe_int (nomark _)) (pw_and (pt_cmpR (op_eqDK K hu64) (pe_ix (ix_seqK K) (pv 2) pe_int (fun _ _ => rfl)) pe_int (nomark _)) (pw_and (pt_cmpR (op_eqDK K hu64) (pe_ix (ix_seqK K) (pv 2) pe_int (fun _ _ => rfl)) (pe_ix (ix_seqK K) (pv 2) pe_int (fun _ _ => rfl)) (nomark _)) (pw_and1 (pt_cmpR (op_eqDK K hu64) (pe_ix (ix_seqK K) (pv 2) pe_int (fun _ _ => rfl)) (pv 1) (nomark _))))))))) (fun _ _ _ _ _ => (pv 2))) (pe_lst pa_nil) (nomark _)))), ?_⟩

    have a : At Fm.pure B H B H := At.start (Ok.any e)
    have hz : xs.length ≤ 16777216 := by
      obtain ⟨p, us, _, _, l1, g1⟩ := dd_tup hv
      rw [← g1.len, ← sizeLine_eq]
      exact l1
    refine sv_ret (P := DD K (.bool (xs.any (toldD n)))) a (ed_is (ed_op (ed_lcD (toldD n) (fun d => d) (ev_seqT (ed_var rfl hv)) hz (fun _ => rfl) (fun d u B2 hm _ hdu => ?_) (fun d u B2 _ _ _ hdu => ed_var rfl hdu)) (ed_lst eds_nil) (rd_neD (Sm.sh (sm_filter (n := 59) fun d hd => ?_)) rfl)) ?_) fun v1 B2 H2 e2 a2 h2 => q _ _ _ a2.st h2
    · obtain ⟨i, j, k, l, h, rfl, _⟩ := item5 (hx d hm)
      have ix : ∀ (B3 : Hp) (σ : L2.St) (p : Nat) (x : Int), Dd K B3 u (.tuple [.int i, .int j, .int k, .int l, .int h]) → σ[2]? = some (some u) → ([.int i, .int j, .int k, .int l, .int h] : List PyData)[p]? = some (.int x) → ED Fm.pure K (tOp (rIx K) (tVar 2) (tC (.int (p : Nat)))) σ B3 (.int x) := fun B3 σ p x hdd hσ hp => ed_op (ed_var hσ hdd) ed_int (rd_ixT (atI_nat (j := p) hp))
      have eq : ∀ (x y : Int), PyData.eqv (.int x) (.int y) = decide (x = y) := fun x y => by rw [eqv_int, Bool.eq_iff_iff, beq_iff_eq, decide_eq_true_eq]
      exact et_and (et_is (et_cmp (ed_op (ix _ _ 0 i hdu rfl rfl) ed_int (rd_eqD rfl rfl))) (eq _ _)) fun _ => et_and (et_is (et_cmp (ed_op (ix _ _ 1 j hdu rfl rfl) ed_int (rd_eqD rfl rfl))) (eq _ _)) fun _ => et_and (et_is (et_cmp (ed_op (ix _ _ 2 k hdu rfl rfl) (ix _ _ 3 l hdu rfl rfl) (rd_eqD rfl rfl))) (eq _ _)) fun _ => et_is (et_cmp (ed_op (ix _ _ 4 h hdu rfl rfl) (ed_var rfl (.int n)) (rd_eqD rfl rfl))) (eq _ _)
    · obtain ⟨i, j, k, l, h, rfl, _⟩ := item5 (hx d hd)
      exact sm_tup (n := 58) fun y hy => by
        simp only [List.mem_cons, List.mem_nil_iff, or_false] at hy
        rcases hy with rfl | rfl | rfl | rfl | rfl <;> exact sm_int
    · rw [eqv_nil, List.map_id', filter_any]
end
end K12

namespace K12
open PySem PySem.Spec PyProof.Rows L2 Evl Ex Dx
open PySem.PyData (strOk)
section
variable {P : Program} {w : World} {K : PySem.W.Frag} {mg : Str → Option Value} {base : Heap} {f : Addr} {fd : FuncData}
theorem item_nums {d : PyData} {n w : Int} (h : itemD d n w = true) (hn : n ≤ 41) (hw : w ≤ 40) : numsD d 41 = true := by
  obtain ⟨a, b, c, e, f, rfl, h1, h2, h3, h4, h5, h6, h7⟩ := item5 h
  rw [numsD_tup]
  simp only [List.all_cons, List.all_nil, Bool.and_true, Bool.and_eq_true]
  have z : ∀ x : Int, 0 ≤ x → x ≤ 40 → inB (.int x) 0 (41 - 1) = true := fun x x0 x1 => by
    unfold inB
    simp only [Bool.and_eq_true, decide_eq_true_eq]
    omega
  exact ⟨z _ (by omega) (by omega), z _ (by omega) (by omega), z _ (by omega) (by omega), z _ (by omega) (by omega), z _ (by omega) (by omega)⟩
theorem item_len {xs : List PyData} {n w : Int} (h : xs.length ≠ 5) : itemD (.tuple xs) n w = false := by
  cases xs with
  | nil => rfl
  | cons x ds =>
    show (decide (ds.length = 4) && (inB x 0 (n - 1) && upD w 0 ds)) = false
    rw [decide_eq_false (by rw [List.length_cons] at h; omega)]
    rfl
theorem item_is (a b c e f n w : Int) (ha : 0 ≤ a) (hb : 0 ≤ b) : itemD (.tuple [.int a, .int b, .int c, .int e, .int f]) n w = (decide (a < n) && ((!decide (c < b) && (!decide (e < c) && !decide (f < e))) && decide (f ≤ w))) := by
  show (true && ((decide (0 ≤ a) && decide (a ≤ n - 1)) && ((decide (0 ≤ b) && decide (b ≤ w)) && ((decide (b ≤ c) && decide (c ≤ w)) && ((decide (c ≤ e) && decide (e ≤ w)) && ((decide (e ≤ f) && decide (f ≤ w)) && true)))))) = _
  rw [Bool.eq_iff_iff]
  simp only [Bool.true_and, Bool.and_true, Bool.and_eq_true, decide_eq_true_eq, Bool.not_eq_true', decide_eq_false_iff_not]
  omega
def preLI (ds : List PyData) : Prop := ∃ d n m, ds = [d, .int n, .int m] ∧ Sm 60 d ∧ n ≤ 41 ∧ m ≤ 40
abbrev s_law_is_item : Stmt := topS 60
abbrev N_law_is_item : List Str := ["value", "kinds", "n", "k"]
theorem sc_law_is_item : FnScope N_law_is_item ["value", "kinds", "n"] (defScope s_law_is_item) := ⟨rfl, rfl, rfl, by decide +kernel, rfl, by decide +kernel, by decide +kernel⟩
theorem ok_law_is_item (F : Fun K "_law_is_item" "_law_is_item" s_law_is_item f fd) (T : TC K mg) (C_law_is_numbers : Callee P w K mg base "_law_is_numbers" 2 ["value", "many"] (spF K (fun ds => ∃ d n, ds = [d, .int n] ∧ Sm 60 d) fNums)) : FnOk P w K mg base CX0 3 f fd ["value", "kinds", "n"] (spF K preLI fItem) := by
  refine F.ok sc_law_is_item (fun vs H Q E h => ?_) (fun cdv A outer s H vs Q E hr h => ?_)
  · obtain ⟨B, ds, e, hd, ⟨d, n, m, rfl, _⟩, q⟩ := h
    exact hd.len
  · obtain ⟨B, ds, e, hd, ⟨d, n, m, rfl, hsm, hn, hm⟩, q⟩ := h
    have hu64 : (A.deeper (envOfC "_law_is_item" (defScope s_law_is_item) s.heap.objs.size f cdv)).units + 64 < cLine := hr.units
    obtain ⟨v, v2, v3, rfl, hv, hv2, hv3⟩ := arg3 hd
    obtain rfl := dd_int hv2
    obtain rfl := dd_int hv3
    refine ⟨_, (pss_one (ps_ret (pe_and (pe_callC C_law_is_numbers (hr.mono (by decide)) rfl pass0 (pa_cons (pv 0) (pa_cons pe_int pa_nil))) (pe_and (pe_cmpR (op_eqDK K hu64) (pe_callB (call_lenK K) (by rfl) T.m_len bt_len (pa_cons (pv 0) pa_nil)) pe_int (nomark _)) (pe_and (pe_cmpR op_lt (pe_ix (ix_seqK K) (pv 0) pe_int (fun _ _ => rfl)) (pv 1) (nomark _)) (pe_and (pe_cmpR (op_eqDK K hu64) (pe_lc (own := [("k", 3)]) rfl sc_law_is_item.nd (pi_range2 rfl T.m_range (pa_cons pe_int (pa_cons pe_int pa_nil))) (blkOk_by (own := [("k", 3)]) (N := N_law_is_item) (sc := defScope s_law_is_item) (by decide +kernel)) (fun _ _ _ _ _ => pg_name (i := 3) sc_law_is_item.nd rfl (Or.inl rfl)) (fun _ _ _ _ _ => (pts_one (pt_cmpR op_lt (pe_ix (ix_seqK K) (pv 0) (pv 3) (fun _ _ => rfl)) (pe_ix (ix_seqK K) (pv 0) (pe_op op_sub (pv 3) pe_int) (fun _ _ => rfl)) (nomark _)))) (fun _ _ _ _ _ => (pv 3))) (pe_lst pa_nil) (nomark _)) (pe_one (pe_cmpR op_le (pe_ix (ix_seqK K) (pv 0) pe_int (fun _ _ => rfl)) (pv 2) (nomark _))))))))), ?_⟩

    have a : At Fm.pure B H B H := At.start (Ok.any e)
    refine sv_ret (P := DD K (.bool (itemD d n m))) a (ed_is (ed_andV (b := numsD d 41) (c := itemD d n m) (ed_F (eds_cons (ed_var rfl hv) (eds_cons ed_int eds_nil)) ⟨_, _, rfl, hsm⟩ rfl) fun hb => ?_) ?_) fun v1 B2 H2 e2 a2 h2 => q _ _ _ a2.st h2
    · obtain ⟨xs, rfl⟩ : ∃ xs, d = .tuple xs := by cases d <;> first | exact ⟨_, rfl⟩ | cases hb
      rw [numsD_tup] at hb
      refine ed_is (ed_andV (b := decide (xs.length = 5)) (c := itemD (.tuple xs) n m) (ed_is (ed_op (ev_cb (eds_cons (ed_var rfl hv) eds_nil) (rc_len rfl)) ed_int (rd_eqD rfl rfl)) (by show PyData.bool (PyData.eqv (.int ((xs.length : Nat) : Int)) (.int 5)) = _; rw [eqv_len]; exact congrArg PyData.bool (decide_eq_decide.mpr (by omega)))) fun h5 => ?_) ?_
      · have h5' := of_decide_eq_true h5
        match xs, h5' with
        | [x, y, z, u, t], _ =>
        simp only [List.all_cons, List.all_nil, Bool.and_true, Bool.and_eq_true] at hb
        obtain ⟨hx, hy, hz, hu, ht⟩ := hb
        obtain ⟨a1, rfl, a0, _⟩ := inB_is hx
        obtain ⟨b1, rfl, b0, _⟩ := inB_is hy
        obtain ⟨c1, rfl, c0, _⟩ := inB_is hz
        obtain ⟨e1, rfl, e0, _⟩ := inB_is hu
        obtain ⟨f1, rfl, f0, _⟩ := inB_is ht
        have ix : ∀ (B3 : Hp) (σ : L2.St) (te : TE) (p : Nat) (x : Int), Ex B B3 → σ[0]? = some (some v) → ED Fm.pure K te σ B3 (.int (p : Nat)) → ([.int a1, .int b1, .int c1, .int e1, .int f1] : List PyData)[p]? = some (.int x) → ED Fm.pure K (tOp (rIx K) (tVar 0) te) σ B3 (.int x) := fun B3 σ te p x e3 hσ ht hp => ed_op (ed_var hσ (hv.up e3)) ht (rd_ixT (atI_nat (j := p) hp))
        rw [item_is a1 b1 c1 e1 f1 n m a0 b0]
        refine ed_andV (b := decide (a1 < n)) (ed_op (ix _ _ _ 0 a1 (Ex.refl B) rfl ed_int rfl) (ed_var rfl (.int n)) rd_lt) fun _ => ed_andV (b := !decide (c1 < b1) && (!decide (e1 < c1) && !decide (f1 < e1))) (ed_is (ed_op (ed_lcR2 (lo := 2) (n := 5) (fun i => if i = 0 then decide (c1 < b1) else if i = 1 then decide (e1 < c1) else decide (f1 < e1)) (fun i : Nat => .int (2 + (i : Int))) (eds_cons ed_int (eds_cons ed_int eds_nil)) (by decide) (fun _ => rfl) (fun i B3 hi e3 => ?_) (fun i B3 hi _ e3 => ed_var rfl (.int _))) (ed_lst eds_nil) (rd_eqD (Sm.sh (sm_lst (n := 59) fun y hy => ?_)) rfl)) ?_) fun _ => ed_op (ix _ _ _ 4 f1 (Ex.refl B) rfl ed_int rfl) (ed_var rfl (.int m)) rd_le
        · have hi3 : i = 0 ∨ i = 1 ∨ i = 2 := by omega
          have vk : ∀ (σ : L2.St) (x : Int), σ[3]? = some (some (.int x)) → ED Fm.pure K (tVar 3) σ B3 (.int x) := fun σ x hσ => ed_var hσ (.int x)
          have vk1 : ∀ (σ : L2.St) (x : Int), σ[3]? = some (some (.int x)) → ED Fm.pure K (tOp (rI0 fun i j => .int (i - j)) (tVar 3) (tC (.int 1))) σ B3 (.int (x - 1)) := fun σ x hσ => ed_op (ed_var hσ (.int x)) ed_int rd_sub
          rcases hi3 with rfl | rfl | rfl
          · exact et_cmp (ed_op (ix _ _ _ 2 c1 e3 rfl (vk _ 2 rfl) rfl) (ix _ _ _ 1 b1 e3 rfl (vk1 _ 2 rfl) rfl) rd_lt)
          · exact et_cmp (ed_op (ix _ _ _ 3 e1 e3 rfl (vk _ 3 rfl) rfl) (ix _ _ _ 2 c1 e3 rfl (vk1 _ 3 rfl) rfl) rd_lt)
          · exact et_cmp (ed_op (ix _ _ _ 4 f1 e3 rfl (vk _ 4 rfl) rfl) (ix _ _ _ 3 e1 e3 rfl (vk1 _ 4 rfl) rfl) rd_lt)
        · obtain ⟨i, _, rfl⟩ := List.mem_map.mp hy
          exact sm_int
        · rw [eqv_nil, List.isEmpty_map]
          show PyData.bool (([0, 1, 2].filter _).isEmpty) = _
          rw [filter_emp]
          simp
      · by_cases h5 : xs.length = 5
        · rw [decide_eq_true h5]
          rfl
        · rw [decide_eq_false h5, item_len h5]
          rfl
    · cases hb : numsD d 41 with
      | true => rfl
      | false =>
        cases hi : itemD d n m with
        | true => rw [item_nums hi hn hm] at hb; cases hb
        | false => rfl
end
end K12

namespace K12
open PySem PySem.Spec PyProof.Rows L2 Evl Ex Dx StX
open PySem.PyData (strOk)
section
variable {P : Program} {w : World} {K : PySem.W.Frag} {mg : Str → Option Value} {base : Heap} {f : Addr} {fd : FuncData}


/-! ### all_places -/
def cellD (c : List Int) : PyData := .tuple (c.map .int)
def placesL (n : Nat) : List (List Int) := (List.range (n + 1)).flatMap fun l : Nat => (List.range (l + 1)).flatMap fun k : Nat => (List.range (k + 1)).flatMap fun j : Nat => (List.range (j + 1)).flatMap fun i : Nat => [[(i : Int), (j : Int), (k : Int), (l : Int)]]
theorem places_mem {n : Nat} {c : List Int} : c ∈ placesL n ↔ ∃ i j k l : Nat, c = [(i : Int), (j : Int), (k : Int), (l : Int)] ∧ i ≤ j ∧ j ≤ k ∧ k ≤ l ∧ l ≤ n := by
  unfold placesL
  simp only [List.mem_flatMap, List.mem_range, List.mem_singleton]
  constructor
  · rintro ⟨l, hl, k, hk, j, hj, i, hi, rfl⟩
    exact ⟨i, j, k, l, rfl, by omega, by omega, by omega, by omega⟩
  · rintro ⟨i, j, k, l, rfl, h1, h2, h3, h4⟩
    exact ⟨l, by omega, k, by omega, j, by omega, i, by omega, rfl⟩
theorem flat_le {n m : Nat} {α : Type} {g : Nat → List α} (h : ∀ i < n, (g i).length ≤ m) : ((List.range n).flatMap g).length ≤ n * m := by
  induction n with
  | zero => simp
  | succ n ih =>
    rw [List.range_succ, List.flatMap_append, List.length_append, List.flatMap_cons, List.flatMap_nil, List.append_nil, Nat.succ_mul]
    exact Nat.add_le_add (ih fun i hi => h i (by omega)) (h n (by omega))
theorem places_len {n : Nat} (h : n ≤ 40) : (placesL n).length ≤ 41 * (41 * (41 * 41)) := by
  refine Nat.le_trans (flat_le fun l hl => Nat.le_trans (flat_le fun k hk => Nat.le_trans (flat_le fun j hj => Nat.le_trans (flat_le (m := 1) fun i hi => Nat.le_refl _) (show (j + 1) * 1 ≤ 41 by omega)) (Nat.mul_le_mul_right 41 (show k + 1 ≤ 41 by omega))) (Nat.mul_le_mul_right _ (show l + 1 ≤ 41 by omega))) (Nat.mul_le_mul_right _ (show n + 1 ≤ 41 by omega))
theorem flatMap_mapR {α β : Type} {n : Nat} {g : Nat → List α} {h : α → β} : ((List.range n).flatMap g).map h = (List.range n).flatMap fun i => (g i).map h := by
  rw [List.map_flatMap]
def fPlaces : List PyData → PyData
  | [.int n] => .list ((placesL n.toNat).map cellD)
  | _ => .none
def prePl (ds : List PyData) : Prop := ∃ n : Int, ds = [.int n] ∧ 0 ≤ n ∧ n ≤ 40

abbrev s_all_places : Stmt := topS 29
abbrev N_all_places : List Str := ["words", "ends", "l", "k", "j", "i"]
theorem sc_all_places : FnScope N_all_places ["words"] (defScope s_all_places) := ⟨rfl, rfl, rfl, by decide +kernel, rfl, by decide +kernel, by decide +kernel⟩
theorem ok_all_places (F : Fun K "all_places" "all_places" s_all_places f fd) (T : TC K mg) : FnOk P w K mg base CX0 1 f fd ["words"] (spF K prePl fPlaces) := by
  refine F.ok sc_all_places (fun vs H Q E h => ?_) (fun cdv A outer s H vs Q E hr h => ?_)
  · obtain ⟨B, ds, e, hd, ⟨n, rfl, _⟩, q⟩ := h
    exact hd.len
  · obtain ⟨B, ds, e, hd, ⟨n, rfl, n0, n1⟩, q⟩ := h
    obtain ⟨v, rfl, hv⟩ := arg1 hd
    obtain rfl := dd_int hv
    refine ⟨_, (pss_cons (ps_set (i := 1) sc_all_places.nd rfl (Or.inl rfl) (pe_callTy call_rng1 (by rfl) T.m_range bt_range (pa_cons (pe_op (op_addK K) (pv 0) pe_int) pa_nil)))
      (pss_one (ps_ret (Cn.pe_lcN (own := [("l", 2), ("k", 3), ("j", 4), ("i", 5)]) rfl sc_all_places.nd (pi_rngV (pv 1)) (blkOk_by (own := [("l", 2), ("k", 3), ("j", 4), ("i", 5)]) (N := N_all_places) (sc := defScope s_all_places) (by decide +kernel)) (by exact fun i hi => List.mem_cons_of_mem _ (hi)) (fun _ _ _ _ _ => (pg_name (i := 2) sc_all_places.nd rfl (Or.inl rfl))) (fun _ _ _ _ _ => pts_nil) (fun _ _ _ _ _ => (pe_tup (pa_cons (pv 5) (pa_cons (pv 4) (pa_cons (pv 3) (pa_cons (pv 2) pa_nil)))))) (fun _ _ _ _ _ => (.cons (vs := [3, 4, 5]) rfl (pi_range1 rfl T.m_range (pa_cons (pe_op (op_addK K) (pv 2) pe_int) pa_nil)) (pg_name (i := 3) sc_all_places.nd rfl (Or.inl rfl)) pts_nil (fun _ => rfl) (by exact fun i hi => List.mem_cons_of_mem _ (hi)) (.cons (vs := [4, 5]) rfl (pi_range1 rfl T.m_range (pa_cons (pe_op (op_addK K) (pv 3) pe_int) pa_nil)) (pg_name (i := 4) sc_all_places.nd rfl (Or.inl rfl)) pts_nil (fun _ => rfl) (by exact fun i hi => List.mem_cons_of_mem _ (hi)) (.cons (vs := [5]) rfl (pi_range1 rfl T.m_range (pa_cons (pe_op (op_addK K) (pv 4) pe_int) pa_nil)) (pg_name (i := 5) sc_all_places.nd rfl (Or.inl rfl)) pts_nil (fun _ => rfl) (by exact fun i hi => nomatch hi) (.nil rfl))))))))), ?_⟩
    have a : At Fm.pure B H B H := At.start (Ok.any e)
    refine qv_asg (P := RngV (n + 1)) a (ev_rng1 (ed_op (ed_var rfl (.int n)) ed_int rd_add)) fun v1 B1 H1 e1 a1 h1 => ?_
    have kk : ∀ (σ : L2.St) (p : Nat) (x : Int), σ[p]? = some (some (.int x)) → ∀ B', EDs Fm.pure K (tCons (tOp (rAddA K) (tVar p) (tC (.int 1))) tNil) σ B' [.int (x + 1)] := fun σ p x hσ B' => eds_cons (ed_op (ed_var hσ (.int x)) ed_int rd_add) eds_nil
    have l4 : ∀ (l k j i : Nat), InP Fm.pure K (tTup (tCons (tVar 5) (tCons (tVar 4) (tCons (tVar 3) (tCons (tVar 2) tNil))))) [] [some (.int n), some v1, some (.int (l : Int)), some (.int (k : Int)), some (.int (j : Int)), some (.int (i : Int))] B1 [cellD [(i : Int), (j : Int), (k : Int), (l : Int)]] := fun l k j i =>
      in_nil fun B' _ => ed_tup (ds := [.int (i : Int), .int (j : Int), .int (k : Int), .int (l : Int)]) (eds_cons (ed_var rfl (.int _)) (eds_cons (ed_var rfl (.int _)) (eds_cons (ed_var rfl (.int _)) (eds_cons (ed_var rfl (.int _)) eds_nil))))
    have l3 : ∀ (l k j : Nat), j < 100 → InP Fm.pure K (tTup (tCons (tVar 5) (tCons (tVar 4) (tCons (tVar 3) (tCons (tVar 2) tNil))))) [(iRng1 (tCons (tOp (rAddA K) (tVar 4) (tC (.int 1))) tNil), gName 5, (fun _ H Q => Q true H), [5])] [some (.int n), some v1, some (.int (l : Int)), some (.int (k : Int)), some (.int (j : Int)), none] B1 ((List.range ((j : Int) + 1).toNat).flatMap fun i : Nat => [cellD [(i : Int), (j : Int), (k : Int), (l : Int)]]) := fun l k j hj =>
      in_rng (n := (j : Int) + 1) (fun B' _ => kk _ 4 _ rfl B') (by omega) (fun _ => rfl) fun i hi => l4 l k j i
    have l2 : ∀ (l k : Nat), k < 100 → InP Fm.pure K (tTup (tCons (tVar 5) (tCons (tVar 4) (tCons (tVar 3) (tCons (tVar 2) tNil))))) [(iRng1 (tCons (tOp (rAddA K) (tVar 3) (tC (.int 1))) tNil), gName 4, (fun _ H Q => Q true H), [4, 5]), (iRng1 (tCons (tOp (rAddA K) (tVar 4) (tC (.int 1))) tNil), gName 5, (fun _ H Q => Q true H), [5])] [some (.int n), some v1, some (.int (l : Int)), some (.int (k : Int)), none, none] B1 ((List.range ((k : Int) + 1).toNat).flatMap fun j : Nat => (List.range ((j : Int) + 1).toNat).flatMap fun i : Nat => [cellD [(i : Int), (j : Int), (k : Int), (l : Int)]]) := fun l k hk =>
      in_rng (n := (k : Int) + 1) (fun B' _ => kk _ 3 _ rfl B') (by omega) (fun _ => rfl) fun j hj => l3 l k j (by omega)
    have l1 : ∀ (l : Nat), l < 100 → InP Fm.pure K (tTup (tCons (tVar 5) (tCons (tVar 4) (tCons (tVar 3) (tCons (tVar 2) tNil))))) [(iRng1 (tCons (tOp (rAddA K) (tVar 2) (tC (.int 1))) tNil), gName 3, (fun _ H Q => Q true H), [3, 4, 5]), (iRng1 (tCons (tOp (rAddA K) (tVar 3) (tC (.int 1))) tNil), gName 4, (fun _ H Q => Q true H), [4, 5]), (iRng1 (tCons (tOp (rAddA K) (tVar 4) (tC (.int 1))) tNil), gName 5, (fun _ H Q => Q true H), [5])] [some (.int n), some v1, some (.int (l : Int)), none, none, none] B1 ((List.range ((l : Int) + 1).toNat).flatMap fun k : Nat => (List.range ((k : Int) + 1).toNat).flatMap fun j : Nat => (List.range ((j : Int) + 1).toNat).flatMap fun i : Nat => [cellD [(i : Int), (j : Int), (k : Int), (l : Int)]]) := fun l hl =>
      in_rng (n := (l : Int) + 1) (fun B' _ => kk _ 2 _ rfl B') (by omega) (fun _ => rfl) fun k hk => l2 l k (by omega)
    have hz : ((List.range (n + 1).toNat).flatMap (fun l : Nat => (List.range ((l : Int) + 1).toNat).flatMap fun k : Nat => (List.range ((k : Int) + 1).toNat).flatMap fun j : Nat => (List.range ((j : Int) + 1).toNat).flatMap fun i : Nat => [cellD [(i : Int), (j : Int), (k : Int), (l : Int)]])) = (placesL n.toNat).map cellD := by
      unfold placesL
      rw [flatMap_mapR, show (n + 1).toNat = n.toNat + 1 by omega]
      congr 1
      funext l
      rw [flatMap_mapR, show ((l : Int) + 1).toNat = l + 1 by omega]
      congr 1
      funext k
      rw [flatMap_mapR, show ((k : Int) + 1).toNat = k + 1 by omega]
      congr 1
      funext j
      rw [flatMap_mapR, show ((j : Int) + 1).toNat = j + 1 by omega]
      rfl
    have hl := places_len (n := n.toNat) (by omega)
    refine sv_ret (P := DD K (.list ((placesL n.toNat).map cellD))) a1 (ed_is (ed_lcRV (Bz := B1) (n := n + 1) (Dx.ev_var (P := RngV (n + 1)) rfl upc_rng h1) (by omega) (fun _ => rfl) (fun l hl => l1 l (by omega)) (by rw [hz, List.length_map]; omega)) (congrArg PyData.list hz)) fun v2 B2 H2 e2 a2 h2 => q _ B2 H2 a2.st h2
end
end K12

namespace K12
open PySem PySem.Spec PyProof.Rows L2 Evl Ex Dx StX
open PySem.PyData (strOk)
section
variable {P : Program} {w : World} {K : PySem.W.Frag} {mg : Str → Option Value} {base : Heap} {f : Addr} {fd : FuncData}


theorem eds_star {F : Fm} {σ : L2.St} {B : Hp} {te : TE} {t : TA} {ds es : List PyData} (h : ED F K te σ B (.tuple ds)) (hs : ∀ B1, Ex B B1 → EDs F K t σ B1 es) : EDs F K (tStar K te t) σ B (ds ++ es) := fun B1 e0 H k Q q => h B1 e0 H k _ fun v B2 H2 s2 k2 g => by
  obtain ⟨a, xs, rfl, h1, _, g1⟩ := dd_tup g
  exact ⟨a, xs, rfl, .inl (ex_t k2.e h1), hs B2 (e0.trans s2.bb) B2 (Ex.refl B2) H2 k2 _ fun us B3 H3 s3 k3 gs => q _ B3 H3 (s2.trans s3) k3 ((g1.up s3.bb).app gs)⟩
def kdOf : PyData → Int
  | .tuple (.int a :: _) => a
  | _ => 0
def manyC (ts : List Str) (m : Mp) (r : PyData) : List Int → Int
  | [i, j, k, l] => manyM ts m r i j k l
  | _ => 0
/-- nothing is lacking there -/
def cleanC (ts : List Str) (m : Mp) (r : PyData) (c : List Int) : Bool := (lkI m (kdOf r :: c)).isSome || !decide (0 < manyC ts m r c)
def closedB (ts : List Str) (m : Mp) (rs : List PyData) : Bool := rs.all fun r => (placesL ts.length).all (cleanC ts m r)
def KR (r : PyData) : Prop := RuleIs r ∧ ∃ a rest, r = .tuple (.int a :: rest)
/-! ### is_closed -/
section
variable {c0 c1 c2 CP : Addr}
def spIC (K : PySem.W.Frag) (CP : Addr) : Sp := fun vs H Q _ => ∃ (B : Hp) (vp vt vh : V) (dk : PyData) (rs : List PyData) (ts : List Str) (m : Mp), vs = [vp, vt, vh] ∧ Ex B H ∧ InsP K CP dk (.tuple rs) vp B ∧ Dd K B vt (.tuple (ts.map .str)) ∧ DicV m vh B ∧ (∀ r ∈ rs, KR r) ∧ (∀ x ∈ ts, SeqAt.shaped (.str x) = true) ∧ ts.length ≤ 40 ∧ Small m ∧
  ∀ B' H', Step (fun _ => False) B H B' H' → Q (.bl (closedB ts m rs)) H'

abbrev s_is_closed : Stmt := topS 31
abbrev N_is_closed : List Str := ["pairs", "text", "held", "places_of_text", "rule", "places"]
theorem sc_is_closed : FnScope N_is_closed ["pairs", "text", "held"] (defScope s_is_closed) := ⟨rfl, rfl, rfl, by decide +kernel, rfl, by decide +kernel, by decide +kernel⟩
theorem take_all {α : Type} {p : α → Bool} {l : List α} {i : Nat} {x : α} (hx : l[i]? = some x) (h : (l.take i).all p = true) (hp : p x = true) : (l.take (i + 1)).all p = true := by
  rw [take_snoc hx, List.all_append, h, List.all_cons, hp]
  rfl
theorem all_not {α : Type} {p : α → Bool} {l : List α} {x : α} (hx : x ∈ l) (hp : p x = false) : l.all p = false := by
  rw [Bool.eq_false_iff]
  intro h
  rw [List.all_eq_true.mp h x hx] at hp
  cases hp
theorem ok_is_closed (F : Fun K "is_closed" "is_closed" s_is_closed f fd) (T : TP P w K mg base c0 c1 c2 CP) (hK : noInts K = true) (C_all_places : Callee P w K mg base "all_places" 1 ["words"] (spF K prePl fPlaces)) (C_many_by : Callee P w K mg base "many_by" 3 ["rule", "text", "places", "counts"] (spMB K)) : FnOk P w K mg base CX0 4 f fd ["pairs", "text", "held"] (spIC K CP) := by
  refine F.ok sc_is_closed (fun vs H Q E h => ?_) (fun cdv A outer s H vs Q E hr h => ?_)
  · obtain ⟨B, vp, vt, vh, dk, rs, ts, m, rfl, _⟩ := h
    rfl
  · obtain ⟨B, vp, vt, vh, dk, rs, ts, m, rfl, ex, hp, ht, hh, hkr, hsh, hlen, sm, q⟩ := h
    have hu1 : (A.deeper (envOfC "is_closed" (defScope s_is_closed) s.heap.objs.size f cdv)).units + 1 < cLine := by
      have := hr.units
      omega
    refine ⟨_, (pss_cons (ps_set (i := 3) sc_is_closed.nd rfl (Or.inl rfl) (pe_callC C_all_places (hr.mono (by decide)) rfl pass0 (pa_cons (pe_callB (call_lenK K) (by rfl) T.m_len bt_len (pa_cons (pv 1) pa_nil)) pa_nil)))
      (pss_cons (ps_for PassesOwn.never rfl (pi_seqK K (pe_fldK K (pv 0))) (pg_name (i := 4) sc_is_closed.nd rfl (Or.inl rfl)) (pss_one (ps_for PassesOwn.never rfl (pi_seqK K (pv 3)) (pg_name (i := 5) sc_is_closed.nd rfl (Or.inl rfl)) (pss_one (ps_if (PW.pt (pw_and (pt_cmp (pc_dnotin hu1 (pe_tup (pa_cons (pe_ix (ix_seqK K) (pv 4) pe_int (fun _ _ => rfl)) (pa_star (pv 5) pa_nil))) (pv 2))) (pw_and1 (pt_cmpR op_gt (pe_callC C_many_by (hr.mono (by decide)) rfl pass0 (pa_cons (pv 4) (pa_cons (pv 1) (pa_cons (pv 5) (pa_cons (pv 2) pa_nil))))) pe_int (nomark _))))) (pss_one (ps_ret pe_bl)) pss_nil)))))
      (pss_one (ps_ret pe_bl)))), ?_⟩
    have a : At Fm.pure B H B H := At.start (Ok.any ex)
    have fin : ∀ b v1 B1 H1, At Fm.pure B H B1 H1 → DD K (.bool b) v1 B1 → b = closedB ts m rs → Q v1 H1 := fun b v1 B1 H1 a1 h1 en => by
      obtain rfl := dd_bl h1
      rw [en]
      exact q _ _ a1.st
    refine qv_asg (P := DD K (.list ((placesL ts.length).map cellD))) a (ed_F (eds_cons (ev_cb (eds_cons (ed_var rfl ht) eds_nil) (rc_len rfl)) eds_nil) ⟨_, rfl, by show (0 : Int) ≤ ((ts.map PyData.str).length : Nat); omega, by show (((ts.map PyData.str).length : Nat) : Int) ≤ 40; rw [List.length_map]; omega⟩ (by
      show PyData.list ((placesL ((((ts.map PyData.str).length : Nat) : Int)).toNat).map cellD) = _
      rw [List.length_map, Int.toNat_natCast])) fun vl B1 H1 e1 a1 hl1 => ?_
    refine qd_for (ds := rs) a1 (ev_seqT (ev_fr T (Dx.ev_var (P := InsP K CP dk (.tuple rs)) rfl upc_ins (upc_ins _ _ _ e1 hp)))) (fun n σ' B' => Ex B1 B' ∧ (∃ o1 o2, σ' = [some vp, some vt, some vh, some vl, o1, o2]) ∧ (rs.take n).all (fun r => (placesL ts.length).all (cleanC ts m r)) = true)
      (fun B2 e2 => ⟨e2, ⟨_, _, rfl⟩, rfl⟩) (fun Bb i v r σ' B2 H2 e2 hri hrv e3 a2 hi => ?_) (fun σ' B2 H2 e2 a2 hi => ?_)
    · obtain ⟨eB, ⟨o1, o2, rfl⟩, hall⟩ := hi
      have hrm : r ∈ rs := List.mem_of_getElem? hri
      obtain ⟨hri0, ra, rest, erd⟩ := hkr r hrm
      refine sv_for (K := K) (Ps := DDs K ((placesL ts.length).map cellD)) a2 (ev_seqL (ed_var rfl (hl1.up eB))) (placesL ts.length).length (fun us B3 p => by rw [DdAll.len p, List.length_map]) upc_dds
        (fun n σ2 B3 => Ex B2 B3 ∧ (∃ o3, σ2 = [some vp, some vt, some vh, some vl, some v, o3]) ∧ ((placesL ts.length).take n).all (cleanC ts m r) = true) (fun B3 e4 => ⟨e4, ⟨_, rfl⟩, rfl⟩) (fun Bc c vc us σ2 B3 H3 e4 huc hus e5 a3 hi2 => ?_) (fun σ2 B3 H3 e4 a3 hi2 => ?_)
      · obtain ⟨eB2, ⟨o3, rfl⟩, hall2⟩ := hi2
        obtain ⟨d, hd1, hd2⟩ := DdAll.getv (show DdAll K B3 us _ from hus) huc
        rw [List.getElem?_map] at hd1
        obtain ⟨cc, hc1, rfl⟩ := Option.map_eq_some_iff.mp hd1
        have hcm : cc ∈ placesL ts.length := List.mem_of_getElem? hc1
        obtain ⟨pi, pj, pk, pl, rfl, b1, b2, b3, b4⟩ := places_mem.mp hcm
        have eAll := (e1.trans (eB.trans eB2))
        have hvr : Dd K B3 v r := hrv.up eB2
        have hkd : kdOf r = ra := by rw [erd]; rfl
        have ekey : ∀ Bx, Ex B3 Bx → EV Fm.pure (tTup (tCons (tOp (rIx K) (tVar 4) (tC (.int 0))) (tStar K (tVar 5) tNil))) [some vp, some vt, some vh, some vl, some v, some vc] Bx (KeyV [ra, (pi : Int), (pj : Int), (pk : Int), (pl : Int)]) := fun Bx ex =>
          ev_keyT (K := K) (k := [ra, (pi : Int), (pj : Int), (pk : Int), (pl : Int)]) (eds_cons (ed_op (ed_var rfl (by rw [erd] at hvr; exact hvr.up ex)) ed_int (rd_ixT (atI_nat (j := 0) rfl))) (eds_star (ds := [.int (pi : Int), .int (pj : Int), .int (pk : Int), .int (pl : Int)]) (ed_var rfl (hd2.up ex)) fun _ _ => eds_nil))
        have tst : ETt Fm.pure _ [some vp, some vt, some vh, some vl, some v, some vc] B3 (!(cleanC ts m r [(pi : Int), (pj : Int), (pk : Int), (pl : Int)])) := et_is (et_and (b := !(lkI m [ra, (pi : Int), (pj : Int), (pk : Int), (pl : Int)]).isSome) (c := decide (0 < manyM ts m r pi pj pk pl)) (et_val (K := K) ((ev_dnin (Dx.ev_var (P := DicV m) (i := 2) rfl upc_dic (upc_dic _ _ _ eAll hh)) (ekey B3 (Ex.refl B3))).imp fun v _ _ e => by rw [e]; exact .bl _))
          fun _ => et_cmp (K := K) (ed_op (ev_call (sp := spMB K) (E := E0) (evs_cons upc_dd (ed_var (i := 4) rfl hvr) (evs_cons upc_dd (ed_var (i := 1) rfl (ht.up eAll)) (evs_cons upc_dd (ed_var (i := 5) rfl hd2) (evs_cons upc_dic (Dx.ev_var (P := DicV m) (i := 2) rfl upc_dic (upc_dic _ _ _ eAll hh)) evs_nil)))) fun B4 e6 H4 us jj hu Q q => by
            obtain ⟨v1, _, rfl, d1, v2, _, rfl, d2, v3, _, rfl, d3, v4, _, rfl, d4, rfl⟩ := hu
            exact ⟨B4, v1, v2, v3, v4, r, ts, pi, pj, pk, pl, m, rfl, jj.e, hri0, hsh, by omega, sm, d1, d2, d3, d4, by omega, fun B' H' s => q _ B' H' s.pure (jj.pure s) (.int (manyM ts m r pi pj pk pl))⟩) ed_int rd_gt)) (by
            show (!(lkI m [ra, (pi : Int), (pj : Int), (pk : Int), (pl : Int)]).isSome && decide (0 < manyM ts m r pi pj pk pl)) = !((lkI m (kdOf r :: [(pi : Int), (pj : Int), (pk : Int), (pl : Int)])).isSome || !decide (0 < manyM ts m r pi pj pk pl))
            rw [hkd]
            cases (lkI m [ra, (pi : Int), (pj : Int), (pk : Int), (pl : Int)]).isSome <;> cases decide (0 < manyM ts m r pi pj pk pl) <;> rfl)
        refine sv_if a3 tst (fun hb B4 H4 e6 a4 => ?_) (fun hb B4 H4 e6 a4 => ?_)
        · refine sv_ret (P := DD K (.bool false)) a4 ed_bl fun v1 B5 H5 e7 a5 h5 => fin _ _ _ _ a5 h5 ?_
          have hb' : cleanC ts m r [(pi : Int), (pj : Int), (pk : Int), (pl : Int)] = false := by simpa using hb
          exact (all_not (p := fun r => (placesL ts.length).all (cleanC ts m r)) hrm (all_not hcm hb')).symm
        · exact ⟨B4, e5.trans e6, a4, eB2.trans e6, ⟨_, rfl⟩, take_all hc1 hall2 (by simpa using hb)⟩
      · obtain ⟨eB2, ⟨o3, rfl⟩, hall2⟩ := hi2
        rw [List.take_length] at hall2
        exact ⟨B3, e3.trans eB2, a3, eB.trans eB2, ⟨_, _, rfl⟩, take_all hri hall hall2⟩
    · obtain ⟨eB, ⟨o1, o2, rfl⟩, hall⟩ := hi
      rw [List.take_length] at hall
      refine sv_ret (P := DD K (.bool true)) a2 ed_bl fun v1 B5 H5 e7 a5 h5 => fin _ _ _ _ a5 h5 hall.symm

/-! ### bars_hold -/
theorem ltI_irr : ∀ k : List Int, ltI k k = true → False
  | [], h => nomatch h
  | x :: xs, h => by
    have h' : (if x = x then ltI xs xs else decide (x < x)) = true := h
    rw [if_pos rfl] at h'
    exact ltI_irr xs h'
theorem ltI_tr : ∀ {a b c : List Int}, ltI a b = true → ltI b c = true → ltI a c = true
  | [], [], _, h, _ => nomatch h
  | [], _ :: _, [], _, h => nomatch h
  | [], _ :: _, _ :: _, _, _ => rfl
  | _ :: _, [], _, h, _ => nomatch h
  | _ :: _, _ :: _, [], _, h => nomatch h
  | x :: xs, y :: ys, z :: zs, h1, h2 => by
    have h1' : (if x = y then ltI xs ys else decide (x < y)) = true := h1
    have h2' : (if y = z then ltI ys zs else decide (y < z)) = true := h2
    show (if x = z then ltI xs zs else decide (x < z)) = true
    by_cases e1 : x = y
    · rw [if_pos e1] at h1'
      by_cases e2 : y = z
      · rw [if_pos e2] at h2'
        rw [if_pos (e1.trans e2)]
        exact ltI_tr h1' h2'
      · rw [if_neg e2] at h2'
        rw [if_neg fun z => e2 (e1 ▸ z), e1]
        exact h2'
    · rw [if_neg e1, decide_eq_true_eq] at h1'
      by_cases e2 : y = z
      · rw [if_neg fun q => e1 (q.trans e2.symm), ← e2]
        exact decide_eq_true h1'
      · rw [if_neg e2, decide_eq_true_eq] at h2'
        rw [if_neg (by omega)]
        exact decide_eq_true (by omega)
theorem lt_rows {xs : List PyData} (h : (List.range (xs.length - 1)).all (ltAt xs) = true) {i j : Nat} (hi : i < j) (hj : j < xs.length) : ltI (ksOf (xs.getD i .none)) (ksOf (xs.getD j .none)) = true := by
  induction j with
  | zero => omega
  | succ j ih =>
    have h1 : ltAt xs j = true := List.all_eq_true.mp h j (List.mem_range.mpr (by omega))
    rcases Nat.lt_or_ge i j with h2 | h2
    · exact ltI_tr (ih h2 (by omega)) h1
    · obtain rfl : i = j := by omega
      exact h1
theorem rows_nodup {xs : List PyData} (h : (List.range (xs.length - 1)).all (ltAt xs) = true) : (xs.map ksOf).Nodup := by
  rw [List.nodup_iff_pairwise_ne, List.pairwise_iff_getElem]
  intro i j hi hj hij e
  rw [List.length_map] at hi hj
  have h1 := lt_rows h hij hj
  rw [List.getElem_map, List.getElem_map] at e
  rw [List.getD_eq_getElem?_getD, List.getD_eq_getElem?_getD, List.getElem?_eq_getElem hi, List.getElem?_eq_getElem hj] at h1
  simp only [Option.getD_some] at h1
  rw [e] at h1
  exact ltI_irr _ h1
theorem atG_row {kf : PyData → List Int} {ds : List PyData} (k : List Int) : atG (rowM kf 1 ds) k = 0 ∨ atG (rowM kf 1 ds) k = 1 := by
  unfold atG
  cases h : lkI (rowM kf 1 ds) k with
  | none => exact .inl rfl
  | some v =>
    obtain ⟨d, _, e⟩ := List.mem_map.mp (lkI_some_mem h)
    right
    have := congrArg Prod.snd e
    exact this.symm
theorem small_row {kf : PyData → List Int} {ds : List PyData} : Small (rowM kf 1 ds) := fun k => by
  rcases atG_row (kf := kf) (ds := ds) k with h | h <;> rw [h] <;> decide
def barsB (ts : List Str) (rs : List PyData) (n : Int) (d : PyData) : Bool := match d with
  | .tuple xs => rowsD d n (ts.length : Nat) && (!decide (0 < textM (rowM ksOf 1 xs) 0 0 (ts.length : Nat)) && closedB ts (rowM ksOf 1 xs) rs)
  | _ => false
def spBH (K : PySem.W.Frag) (CP : Addr) : Sp := fun vs H Q _ => ∃ (B : Hp) (vp vt v : V) (n : Int) (rs : List PyData) (ts : List Str) (d : PyData), vs = [vp, vt, v] ∧ Ex B H ∧ InsP K CP (.int n) (.tuple rs) vp B ∧ Dd K B vt (.tuple (ts.map .str)) ∧ Dd K B v d ∧ (∀ r ∈ rs, KR r) ∧ (∀ x ∈ ts, SeqAt.shaped (.str x) = true) ∧ textD (.tuple (ts.map .str)) 8 = true ∧
  ∀ B' H', Step (fun _ => False) B H B' H' → Q (.bl (barsB ts rs n d)) H'

abbrev s_bars_hold : Stmt := topS 26
abbrev N_bars_hold : List Str := ["pairs", "text", "value", "held", "item"]
theorem sc_bars_hold : FnScope N_bars_hold ["pairs", "text", "value"] (defScope s_bars_hold) := ⟨rfl, rfl, rfl, by decide +kernel, rfl, by decide +kernel, by decide +kernel⟩
theorem ok_bars_hold (F : Fun K "bars_hold" "bars_hold" s_bars_hold f fd) (T : TP P w K mg base c0 c1 c2 CP) (c_MOST_WORDS : ∃ t, mg "MOST_WORDS" = some (.int 8 t)) (hK : noInts K = true) (C_is_text : Callee P w K mg base "is_text" 2 ["value", "most"] (spF K (fun ds => ∃ d m, ds = [d, .int m]) fText)) (C_is_items : Callee P w K mg base "is_items" 4 ["value", "kinds", "words"] (spF K (fun ds => ∃ d n m, ds = [d, .int n, .int m]) fItems))
    (C_has_whole : Callee P w K mg base "has_whole" 2 ["counts", "words"] (spHW K)) (C_is_closed : Callee P w K mg base "is_closed" 4 ["pairs", "text", "held"] (spIC K CP)) : FnOk P w K mg base CX0 5 f fd ["pairs", "text", "value"] (spBH K CP) := by
  refine F.ok sc_bars_hold (fun vs H Q E h => ?_) (fun cdv A outer s H vs Q E hr h => ?_)
  · obtain ⟨B, vp, vt, v, n, rs, ts, d, rfl, _⟩ := h
    rfl
  · obtain ⟨B, vp, vt, v, n, rs, ts, d, rfl, ex, hp, ht, hv, hkr, hsh, htx, q⟩ := h
    have hu0 : (A.deeper (envOfC "bars_hold" (defScope s_bars_hold) s.heap.objs.size f cdv)).units < cLine := by
      have := hr.units
      omega
    refine ⟨_, (pss_cons (ps_if (PW.pt (pw_or (pt_not (pt_val (pe_callC C_is_text (hr.mono (by decide)) rfl pass0 (pa_cons (pv 1) (pa_cons (pe_gint rfl c_MOST_WORDS) pa_nil))))) (pw_or1 (pt_not (pt_val (pe_callC C_is_items (hr.mono (by decide)) rfl pass0 (pa_cons (pv 2) (pa_cons (pe_fldK K (pv 0)) (pa_cons (pe_callB (call_lenK K) (by rfl) T.m_len bt_len (pa_cons (pv 1) pa_nil)) pa_nil))))))))) (pss_one (ps_ret pe_bl)) pss_nil)
      (pss_cons (Cn.ps_setDcT (i := 3) (own := [("item", 4)]) hu0 rfl sc_bars_hold.nd rfl rfl (Cn.sw_dict rfl rfl rfl (by decide +kernel)) (pi_seqK K (pv 2)) (blkOk_by (own := [("item", 4)]) (N := N_bars_hold) (sc := defScope s_bars_hold) (by decide +kernel)) (fun _ _ _ _ _ => pg_name (i := 4) sc_bars_hold.nd rfl (Or.inl rfl)) (fun _ _ _ _ _ => pts_nil) (fun _ _ _ _ _ => (pe_callTy (call_tuple_ofK K) (by rfl) T.m_tuple bt_tuple (pa_cons (pv 4) pa_nil))) (fun _ _ _ _ _ => pe_int))
      (pss_one (ps_ret (pe_and (pe_not (pe_callC C_has_whole (hr.mono (by decide)) rfl pass0 (pa_cons (pv 3) (pa_cons (pe_callB (call_lenK K) (by rfl) T.m_len bt_len (pa_cons (pv 1) pa_nil)) pa_nil)))) (pe_one (pe_callC C_is_closed (hr.mono (by decide)) rfl pass0 (pa_cons (pv 0) (pa_cons (pv 1) (pa_cons (pv 3) pa_nil)))))))))), ?_⟩
    have a : At Fm.pure B H B H := At.start (Ok.any ex)
    have fin : ∀ b v1 B1 H1, At Fm.pure B H B1 H1 → DD K (.bool b) v1 B1 → b = barsB ts rs n d → Q v1 H1 := fun b v1 B1 H1 a1 h1 en => by
      obtain rfl := dd_bl h1
      rw [en]
      exact q _ _ a1.st
    have lt8 : ts.length ≤ 8 := by
      rw [textD_tup, Bool.and_eq_true, decide_eq_true_eq, List.length_map] at htx
      omega
    have lenT : ∀ (σ : L2.St) Bx, σ[1]? = some (some vt) → Ex B Bx → ED Fm.pure K (tCB (rLnK K) (tCons (tVar 1) tNil)) σ Bx (.int ((ts.length : Nat) : Int)) := fun σ Bx hσ e => ed_is (ev_cb (eds_cons (ed_var hσ (ht.up e)) eds_nil) (rc_len rfl)) (by show PyData.int (((ts.map PyData.str).length : Nat) : Int) = _; rw [List.length_map])
    refine qv_when (b := !rowsD d n (ts.length : Nat)) a (et_is (et_or (b := false) (c := !rowsD d n (ts.length : Nat)) (et_is (et_not (et_val (K := K) (ed_F (z := .bool true) (eds_cons (ed_var rfl ht) (eds_cons ed_int eds_nil)) ⟨_, _, rfl⟩ (by show PyData.bool (textD _ _) = _; rw [htx])))) rfl) fun _ =>
      et_not (et_val (K := K) (ed_F (z := .bool (rowsD d n (ts.length : Nat))) (eds_cons (ed_var rfl hv) (eds_cons (ev_fk T (Dx.ev_var (P := InsP K CP (.int n) (.tuple rs)) rfl upc_ins hp)) (eds_cons (lenT _ B rfl (Ex.refl B)) eds_nil))) ⟨_, _, _, rfl⟩ rfl))) (Bool.false_or _)) (fun hb B1 H1 e1 a1 => ?_) (fun hb B1 H1 e1 a1 => ?_)
    · refine sv_ret (P := DD K (.bool false)) a1 ed_bl fun v1 B2 H2 e2 a2 h2 => fin _ _ _ _ a2 h2 ?_
      have hb' : rowsD d n (ts.length : Nat) = false := by simpa using hb
      cases d with
      | tuple xs =>
        show false = (rowsD (.tuple xs) n (ts.length : Nat) && _)
        rw [hb', Bool.false_and]
      | _ => rfl
    · have hb' : rowsD d n (ts.length : Nat) = true := by simpa using hb
      cases d with
      | tuple xs =>
        have hall : xs.all (itemD · n (ts.length : Nat)) = true ∧ (List.range (xs.length - 1)).all (ltAt xs) = true := Bool.and_eq_true_iff.mp hb'
        have hit := List.all_eq_true.mp hall.1
        have hz : xs.length ≤ 16777216 := by
          obtain ⟨p, us, _, _, l1, g1⟩ := dd_tup hv
          rw [← g1.len, ← sizeLine_eq]
          exact l1
        refine qv_asg (P := DicV (rowM ksOf 1 xs)) a1 (ev_dcD ksOf 1 (ev_seqT (ed_var rfl (hv.up e1))) hz (rows_nodup hall.2) (fun _ => rfl) (fun x u Bx hx e hu => EV.imp (P := DD K x) (ev_cb (eds_cons (ed_var rfl hu) eds_nil) (rc_tupA (by rw [item_ints (hit x hx)]; rfl))) fun w Bw _ g => key_of hK (k := ksOf x) (by
            obtain ⟨a, b, c, e, f, rfl, _⟩ := item5 (hit x hx)
            exact fun z => nomatch z) (by rw [← item_ints (hit x hx)]; exact g)) (fun x u Bx hx e hu => ed_int)) fun vd B2 H2 e2 a2 hd => ?_
        have e12 := e1.trans e2
        refine sv_ret (P := DD K (.bool (!decide (0 < textM (rowM ksOf 1 xs) 0 0 (ts.length : Nat)) && closedB ts (rowM ksOf 1 xs) rs))) a2 (ed_andV (ed_notV (ev_call (sp := spHW K) (E := E0) (evs_cons upc_dic (Dx.ev_var (P := DicV (rowM ksOf 1 xs)) rfl upc_dic hd) (evs_cons upc_dd (lenT _ B2 rfl e12) evs_nil)) fun B4 e6 H4 us jj hu Q q => by
            obtain ⟨v1, _, rfl, d1, v2, _, rfl, d2, rfl⟩ := hu
            obtain rfl := dd_int d2
            exact ⟨B4, _, v1, _, rfl, jj.e, d1, by omega, fun B' H' s => q _ B' H' s.pure (jj.pure s) (.bl _)⟩)) fun _ => ev_call (sp := spIC K CP) (E := E0) (evs_cons upc_ins (Dx.ev_var (P := InsP K CP (.int n) (.tuple rs)) rfl upc_ins (upc_ins _ _ _ e12 hp)) (evs_cons upc_dd (ed_var (i := 1) rfl (ht.up e12)) (evs_cons upc_dic (Dx.ev_var (P := DicV (rowM ksOf 1 xs)) (i := 3) rfl upc_dic hd) evs_nil))) fun B4 e6 H4 us jj hu Q q => by
            obtain ⟨v1, _, rfl, d1, v2, _, rfl, d2, v3, _, rfl, d3, rfl⟩ := hu
            exact ⟨B4, v1, v2, v3, _, rs, ts, _, rfl, jj.e, d1, d2, d3, hkr, hsh, by omega, small_row, fun B' H' s => q _ B' H' s.pure (jj.pure s) (.bl _)⟩) fun v1 B3 H3 e3 a3 h3 => fin _ _ _ _ a3 h3 ?_
        show _ = (rowsD (.tuple xs) n (ts.length : Nat) && _)
        rw [hb', Bool.true_and]
      | _ => cases hb'

end
end
end K12

namespace K12
open PySem PySem.Spec PyProof.Rows L2 Evl Ex Dx
open PySem.PyData (strOk)

section
variable {P : Program} {w : World} {K : PySem.W.Frag} {mg : Str → Option Value} {base : Heap} {f : Addr} {fd : FuncData}

theorem ev_tup2 {F : Fm} {σ : L2.St} {B : Hp} {ta tb : TE} {Pa Pb : PyData → Prop} (ha : EV F ta σ B (fun v B => ∃ d, Dd K B v d ∧ Pa d)) (hb : EV F tb σ B (fun v B => ∃ d, Dd K B v d ∧ Pb d)) :
    EV F (tTup (tCons ta (tCons tb tNil))) σ B (fun v B => ∃ x y, Dd K B v (.tuple [x, y]) ∧ Pa x ∧ Pb y) := fun B1 e0 H j Q q =>
  ha B1 e0 H j _ fun va B2 H2 s2 j2 ⟨x, h2, px⟩ => hb B2 (e0.trans s2.bb) H2 j2 _ fun vb B3 H3 s3 j3 ⟨y, h3, py⟩ =>
    ⟨by show 2 ≤ sizeLine; decide, fun p hp => q (.ref p) _ _ ((s2.trans s3).trans (Step.alloc j3.e hp)) (j3.alloc hp) ⟨x, y, .tup (ta_of upd_same) (by show 2 ≤ sizeLine; decide) (.cons ((h2.up s3.bb).up (Ex.new (fresh_back j3.e hp))) (.cons (h3.up (Ex.new (fresh_back j3.e hp))) .nil)), px, py⟩⟩
/-- tuple(a list that is known up to a choice) -/
theorem ev_tupL {F : Fm} {σ : L2.St} {B : Hp} {te : TE} {Φ : List PyData → Prop} (h : EV F te σ B (fun v B => ∃ ds, Dd K B v (.list ds) ∧ Φ ds)) : EV F (tCB (fun xs H Q => ∃ p ys, xs = [.ref p] ∧ ((SqL K H p ys ∧ ∀ l, H l = none → Q (.ref l) (upd H l (.tup ys))) ∨ (SqT K H p ys ∧ Q (.ref p) H))) (tCons te tNil)) σ B (fun v B => ∃ ds, Dd K B v (.tuple ds) ∧ Φ ds) := fun B1 e0 H j Q q =>
  h B1 e0 H j _ fun v B2 H2 s2 j2 ⟨ds, g, hΦ⟩ => by
    obtain ⟨a, xs, rfl, h1, l1, g1⟩ := dd_lst g
    exact ⟨a, xs, rfl, .inl ⟨sq_of (j2.e _ _ h1), fun l hl => q _ _ _ (s2.trans (Step.alloc j2.e hl)) (j2.alloc hl) ⟨ds, .tup (ta_of upd_same) l1 (g1.up (Ex.new (fresh_back j2.e hl))), hΦ⟩⟩⟩
/-- [te for k in range(..)], each item known up to a choice -/
theorem ev_lcRN {F : Fm} {σ : L2.St} {B : Hp} {ta : TA} {te : TE} {j : Nat} {vsN : List Nat} {C : PyData → Prop} {N : Nat} (h : EVs F ta σ B (fun vs _ => ∃ n : Int, vs = [.int n] ∧ 0 ≤ n ∧ n ≤ (N : Nat))) (hN : N ≤ 1000) (hw : ∀ x, wipe ((wipe σ vsN).set j (some x)) vsN = wipe σ vsN)
    (he : ∀ (i : Nat) B1, Ex B B1 → EV F te ((wipe σ vsN).set j (some (.int (i : Int)))) B1 (fun v B => ∃ d, Dd K B v d ∧ C d)) :
    EV F (tLc (iRng1 ta) (gName j) tYes te vsN) σ B (fun v B => ∃ ds, Dd K B v (.list ds) ∧ ds.length ≤ N ∧ ∀ x ∈ ds, C x) := fun B0 e0 H0 k0 Q q => by
  refine h B0 e0 H0 k0 _ fun vs B1 H1 s1 k1 pv => ?_
  obtain ⟨n, rfl, n0, n1⟩ := pv
  refine ⟨n, rfl, by omega, by omega, fun Dl hD => lc_range (lo := 0) (n := n.toNat) (fun i H' => ∃ ds : List PyData, ds.length = i ∧ (∀ x ∈ ds, C x) ∧ Cq F K B1 H1 Dl ds H') ⟨[], rfl, fun x hx => (nomatch hx), cq_start k1 hD⟩ (fun i H' hi ⟨ds, hl, hC, c⟩ => ?_) (fun H' ⟨ds, hl, hC, c⟩ => ?_)⟩
  · have e1 : (0 : Int) + (i : Int) = (i : Int) := Int.zero_add _
    show wipe ((wipe σ vsN).set j (some (.int ((0 : Int) + (i : Int))))) vsN = wipe σ vsN ∧ tYes ((wipe σ vsN).set j (some (.int ((0 : Int) + (i : Int))))) H' _
    rw [e1]
    refine ⟨hw _, ?_⟩
    obtain ⟨B', acc, s, k, hb, hd, ha⟩ := c
    have nm : ¬ F.M Dl := fun m => (F.lv H1 Dl k1.j m).ne hD
    have lv : Liv H' Dl := ⟨_, hd, trivial⟩
    show te _ H' _
    refine he i B' ((e0.trans s1.bb).trans s.bb) B' (Ex.refl B') H' k _ fun y B4 H4 s4 k4 ⟨d, g, hc⟩ => ?_
    refine ⟨acc, s4.keep Dl _ nm hd, by rw [ha.len, sizeLine_eq]; omega, ds ++ [d], by rw [List.length_append, List.length_singleton, hl], fun x hx => ?_, cq_more hD k1 (s.trans s4) k4 (s4.sep Dl hb lv) (s4.keep Dl _ nm hd) (ha.up s4.bb) g⟩
    rcases List.mem_append.mp hx with hx | hx
    · exact hC x hx
    · rw [List.mem_singleton.mp hx]
      exact hc
  · obtain ⟨B2, s2, k2, g2⟩ := cq_done k1 hD (by omega) c
    exact q _ B2 H' (s1.trans s2) k2 ⟨ds, g2, by omega, hC⟩


/-! ### a list of one's own, read while it stands -/
section
variable {B0 H0 B H B5 H5 : Hp} {na : Addr} {xs : List V} {σ : L2.St} {te tl : TE} {t : TT} {tu tw tz tb : TS} {b : Bool} {i j : Nat} {D : Ends} {ds : List PyData}
theorem s1_obk (m : S1 B0 H0 B H na xs) : Ok (Fm.ob na (.lst xs)) B H := ⟨m.st.bh, m.hn, fun a e => by rw [show a = na from e]; exact m.bn⟩
theorem s1_pass (m : S1 B0 H0 B H na xs) (s : Step (fun a => a = na) B H B5 H5) (k : Ok (Fm.ob na (.lst xs)) B5 H5) : S1 B0 H0 B5 H5 na xs := ⟨step_box m.n0 m.st s, m.n0, k.av na rfl, k.j⟩
theorem so_if (m : S1 B0 H0 B H na xs) (h : ETt (Fm.ob na (.lst xs)) t σ B b) (h1 : b = true → ∀ B5 H5, S1 B0 H0 B5 H5 na xs → Ex B B5 → tu D σ H5) (h2 : b = false → ∀ B5 H5, S1 B0 H0 B5 H5 na xs → Ex B B5 → tw D σ H5) : tIfS t tu tw D σ H := h B (Ex.refl B) H (s1_obk m) _ fun B5 H5 s5 k5 => by
  cases b with
  | true =>
    show tu D σ H5
    exact h1 rfl B5 H5 (s1_pass m s5 k5) s5.bb
  | false =>
    show tw D σ H5
    exact h2 rfl B5 H5 (s1_pass m s5 k5) s5.bb
theorem et_ninO {S : List Str} {u : Str} (hi : σ[i]? = some (some (.ref na))) (h : ED (Fm.ob na (.lst xs)) K te σ B (.str u)) (hx : xs = S.map V.str) : ETt (Fm.ob na (.lst xs)) (tTest (tOp (rIn K true) te (tVar i))) σ B (!inV (.str u) xs) := fun B1 e0 H j Q q =>
  h B1 e0 H j _ fun v B2 H2 s2 j2 g => ⟨.ref na, hi, na, xs, rfl, .inl (sq_of j2.j), by rw [(dd_str g).1]; rfl, by rw [hx]; exact List.all_eq_true.mpr fun y hy => by obtain ⟨s, _, rfl⟩ := List.mem_map.mp hy; rfl, _, rfl, by rw [(dd_str g).1]; exact q B2 H2 s2 j2⟩
/-- for x in data -/
theorem q_forD (ok : Ok Fm.pure B H) (h : EV Fm.pure tl σ B (SqV K (DDs K ds))) (J : Nat → L2.St → Hp → Hp → Prop) (hj : ∀ i σ B H, J i σ B H → Ex B H) (h0 : ∀ B1 H1, Step (fun _ => False) B H B1 H1 → J 0 σ B1 H1)
    (hs : ∀ Bb n d v σ' B1 H1, ds[n]? = some d → Ex B Bb → Ex Bb B1 → Dd K B1 v d → J n σ' B1 H1 → tb { D with nx := fun σ2 H2 => ∃ B2, Ex Bb B2 ∧ J (n + 1) σ2 B2 H2, ct := fun σ2 H2 => ∃ B2, Ex Bb B2 ∧ J (n + 1) σ2 B2 H2, bk := tz D } (σ'.set i (some v)) H1)
    (hd : ∀ σ' B1 H1, Ex B B1 → J ds.length σ' B1 H1 → tz D σ' H1) : tSeq (tFor (iSeq K tl) (gName i) tb) tz D σ H := by
  refine h B (Ex.refl B) H ok _ fun v B1 H1 s1 j1 pv => ?_
  obtain ⟨l, vs, rfl, hl, ps⟩ := pv
  have ps' : DdAll K B1 vs ds := ps
  have turn : ∀ n x σ' H', vs[n]? = some x → (∃ B2, Ex B1 B2 ∧ J n σ' B2 H') → gName i x σ' H' fun σ2 H2 => tb { D with nx := fun σ2 H2 => ∃ B2, Ex B1 B2 ∧ J (n + 1) σ2 B2 H2, ct := fun σ2 H2 => ∃ B2, Ex B1 B2 ∧ J (n + 1) σ2 B2 H2, bk := tz D } σ2 H2 := by
    rintro n x σ' H' hx ⟨B2, e2, q⟩
    obtain ⟨d, hd, hdv⟩ := ps'.getv hx
    exact hs B1 n d x σ' B2 H' hd s1.bb e2 (hdv.up e2) q
  have fin : ∀ σ' H', (∃ B2, Ex B1 B2 ∧ J vs.length σ' B2 H') → tz D σ' H' := fun σ' H' ⟨B2, e2, q⟩ => hd σ' B2 H' (s1.bb.trans e2) (by rw [← ps'.len]; exact q)
  refine ⟨l, rfl, ?_⟩
  rcases hl with hl | hl
  · refine .inl ⟨⟨vs, ex_l j1.e hl⟩, for_list (K := K) (xs := vs) (fun n σ' H' => ∃ B2, Ex B1 B2 ∧ J n σ' B2 H') ⟨B1, Ex.refl B1, h0 B1 H1 s1⟩ (fun n σ' H' _ ⟨B2, e, q⟩ => ex_l (hj _ _ _ _ q) (ex_l e hl)) turn fin⟩
  · refine .inr ⟨⟨vs, ex_t j1.e hl⟩, for_tup (K := K) (xs := vs) (fun n σ' H' => ∃ B2, Ex B1 B2 ∧ J n σ' B2 H') ⟨B1, Ex.refl B1, h0 B1 H1 s1⟩ (fun n σ' H' _ ⟨B2, e, q⟩ => ex_t (hj _ _ _ _ q) (ex_t e hl)) turn fin⟩
end
/-- slices of lists -/
theorem sl_lstK {X : Cx} (K : PySem.W.Frag) (hK : X.K = K := by rfl) : SlR X (rSlL K) := by subst hK; exact sl_list
theorem dd_cut {H : Hp} {vs : List V} {ds : List PyData} (h : DdAll K H vs ds) (lo hi : Option Int) : DdAll K H (cutV vs lo hi) (cutL ds lo hi) := by
  unfold cutV cutL
  rw [h.len]
  exact (h.drop _).take _
theorem ed_slL {F : Fm} {σ : L2.St} {B : Hp} {te : TE} {tl th : TO} {ds : List PyData} {lo hi : Option Int} (h : ED F K te σ B (.list ds)) (hl : EO F tl σ B lo) (hh : EO F th σ B hi) : ED F K (tSl (rSlL K) te tl th) σ B (.list (cutL ds lo hi)) := fun B1 e0 H k Q q =>
  h B1 e0 H k _ fun v B2 H2 s2 k2 g => hl B2 (e0.trans s2.bb) H2 k2 _ fun B3 H3 s3 k3 => hh B3 ((e0.trans s2.bb).trans s3.bb) H3 k3 _ fun B4 H4 s4 k4 => by
    obtain ⟨a, xs, rfl, h1, l1, g1⟩ := dd_lst (g.up (s3.bb.trans s4.bb))
    refine ⟨a, xs, rfl, sq_of (k4.e _ _ h1), fun p hp => q (.ref p) _ _ (((s2.trans s3).trans s4).trans (Step.alloc k4.e hp)) (k4.alloc hp) (.lst upd_same ?_ ((dd_cut g1 lo hi).up (Ex.new (fresh_back k4.e hp))))⟩
    have : (cutV xs lo hi).length ≤ xs.length := by unfold cutV; rw [List.length_take, List.length_drop]; omega
    omega

/-! ### _law_words -/
abbrev LW : List Str := L12.filter fun u => wordD (.str u)
theorem lw_word {u : Str} (h : u ∈ LW) : wordD (.str u) = true := (List.mem_filter.mp h).2
theorem lw_l12 {u : Str} (h : u ∈ LW) : u ∈ L12 := (List.mem_filter.mp h).1
def spWords (K : PySem.W.Frag) : Sp := fun vs H Q _ => ∃ (B : Hp) (vg : V) (n : Nat) (rs : List PyData), vs = [vg] ∧ Ex B H ∧ Dd K B vg (.tuple [.int (n : Nat), .tuple rs]) ∧ rs.length ≤ 9 ∧ (∀ r ∈ rs, RG n r) ∧
  ∀ v' B' H' (S : List Str), Step (fun _ => False) B H B' H' → Dd K B' v' (.list (S.map .str)) → S.length ≤ 9 → (∀ u ∈ S, u ∈ LW) → Q v' H'
theorem tailD_word {s : Str} {p : PyData} {ps : List PyData} {n : Int} (h : tailD s (p :: ps) n = true) (hw : inS s WSH = true) : ps = [] ∧ ∃ u, p = .str u ∧ wordD (.str u) = true := by
  unfold tailD at h
  rw [if_pos hw, Bool.and_eq_true, decide_eq_true_eq] at h
  refine ⟨List.eq_nil_of_length_eq_zero (by have := h.1; simp only [List.length_cons] at this; omega), ?_⟩
  have h2 : wordD p = true := h.2
  cases p with
  | str u => exact ⟨u, rfl, h2⟩
  | _ => cases h2
theorem cut_init {S : List Str} : (cutL S none (some (-1))).length = S.length - 1 := by
  unfold cutL
  rw [List.length_take, List.length_drop]
  have e1 : HT.sIx S.length 0 none = 0 := rfl
  have e2 : HT.sIx S.length S.length (some (-1)) = S.length - 1 := by
    unfold HT.sIx
    simp only
    rw [if_pos (by decide)]
    omega
  rw [e1, e2]
  omega
theorem l12_len : ∀ u ∈ LW, u.length ≤ 100 := by decide +kernel

abbrev s_law_words : Stmt := topS 57
abbrev N_law_words : List Str := ["grammar", "found", "rule"]
theorem sc_law_words : FnScope N_law_words ["grammar"] (defScope s_law_words) := ⟨rfl, rfl, rfl, by decide +kernel, rfl, by decide +kernel, by decide +kernel⟩
theorem ok_law_words (F : Fun K "_law_words" "_law_words" s_law_words f fd) (T : TC K mg) : FnOk P w K mg base CX0 1 f fd ["grammar"] (spWords K) := by
  refine F.ok sc_law_words (fun vs H Q E h => ?_) (fun cdv A outer s H vs Q E hr h => ?_)
  · obtain ⟨B, vg, n, rs, rfl, _⟩ := h
    rfl
  · obtain ⟨B, vg, n, rs, rfl, e, hg, hl, hall, q⟩ := h
    refine ⟨_, (pss_cons (ps_set (i := 1) sc_law_words.nd rfl (Or.inl rfl) (pe_lst pa_nil))
      (pss_cons (ps_for PassesOwn.never rfl (pi_seqK K (pe_ix (ix_seqK K) (pv 0) pe_int (fun _ _ => rfl))) (pg_name (i := 2) sc_law_words.nd rfl (Or.inl rfl)) (pss_one (ps_if (PW.pt (pw_and (pt_cmpR (op_inK K) (pe_ix (ix_seqK K) (pv 2) pe_int (fun _ _ => rfl)) (pe_lst (pa_cons pe_str (pa_cons pe_str pa_nil))) (by rfl)) (pw_and1 (pt_cmpR (op_ninK K) (pe_ix (ix_seqK K) (pv 2) pe_int (fun _ _ => rfl)) (pv 1) (by rfl))))) (pss_one (ps_expr (pe_bm PySem.F.plainAttrs_list PySem.F.slot_list_append PySem.F.type_list_append mt_append (pv 1) (pa_cons (pe_ix (ix_seqK K) (pv 2) pe_int (fun _ _ => rfl)) pa_nil)))) pss_nil)))
      (pss_one (ps_ret (pv 1))))), ?_⟩
    refine qs_new (i := 1) (Ok.any e) fun fa m0 => ?_
    refine q_forD (i := 2) (tl := tOp (rIx K) (tVar 0) (tC (.int 1))) (K := K) (ds := rs) m0.ok (ev_seqT (ed_op (ed_var rfl hg) ed_int (rd_ixT at2_1)))
      (fun i σ' B' H' => ∃ o xs S, σ' = [some vg, some (.ref fa), o] ∧ S1 B H B' H' fa xs ∧ xs = S.map V.str ∧ S.length ≤ i ∧ ∀ u ∈ S, u ∈ LW) (fun i σ' B' H' ⟨_, _, _, _, m, _⟩ => m.st.bh)
      (fun B1 H1 s1 => ⟨none, [], [], rfl, m0.pass s1, rfl, Nat.le_refl 0, fun u hu => nomatch hu⟩) ?_ ?_
    · rintro Bb i r v σ' B1 H1 hr eb e1 hv ⟨o, xs, S, rfl, m, rfl, hS, hL⟩
      have hRG := hall r (List.mem_of_getElem? hr)
      obtain ⟨k, sh, p, ps, rfl, _, _, htl⟩ := ruleD_is hRG.1
      have i1 : ∀ (F : Fm) B2, Ex B1 B2 → ED F K (tOp (rIx K) (tVar 2) (tC (.int 1))) [some vg, some (.ref fa), some v] B2 (.str sh) := fun F B2 e2 => ed_op (ed_var rfl (hv.up e2)) ed_int (rd_ixT at3_1)
      have i2 : ∀ (F : Fm) B2, Ex B1 B2 → ED F K (tOp (rIx K) (tVar 2) (tC (.int 2))) [some vg, some (.ref fa), some v] B2 p := fun F B2 e2 => ed_op (ed_var rfl (hv.up e2)) ed_int (rd_ixT at3_2)
      by_cases hw : inS sh WSH = true
      · obtain ⟨_, u, rfl, hwd⟩ : ps = [] ∧ ∃ u, p = .str u ∧ wordD (.str u) = true := tailD_word htl hw
        have hu : u ∈ LW := by
          rcases smD_is hRG.2 with h1 | ⟨ds, e, _, h2⟩
          · cases h1
          · cases e
            have := h2 (.str u) (by simp)
            exact List.mem_filter.mpr ⟨List.contains_iff_mem.mp this, hwd⟩
        refine so_if (b := inS sh WSH && !inV (.str u) (S.map V.str)) m (et_and (et_cmp (inSL (i1 _ _ (Ex.refl B1)) pyStr2)) fun _ => et_ninO rfl (i2 _ _ (Ex.refl B1)) rfl) (fun _ B5 H5 m5 e5 => ?_) (fun _ B5 H5 m5 e5 => ?_)
        · refine ss_app (K := K) m5 rfl (i2 _ _ e5) (by rw [List.length_map]; have := (List.getElem?_eq_some_iff.mp hr).1; omega) fun v6 B6 H6 m6 e6 h6 => ?_
          refine ⟨B6, e1.trans (e5.trans e6), _, _, S ++ [u], rfl, m6, by rw [(dd_str h6).1, List.map_append]; rfl, by rw [List.length_append]; show S.length + 1 ≤ i + 1; omega, fun y hy => ?_⟩
          rcases List.mem_append.mp hy with hy | hy
          · exact hL y hy
          · rw [List.mem_singleton.mp hy]
            exact hu
        · exact ⟨B5, e1.trans e5, _, _, S, rfl, m5, rfl, by omega, hL⟩
      · have hw' : inS sh WSH = false := by simpa using hw
        refine so_if (b := false) m (et_is (et_and (b := inS sh WSH) (c := true) (et_cmp (inSL (i1 _ _ (Ex.refl B1)) pyStr2)) fun h => absurd h hw) (by rw [hw']; rfl)) (fun h => nomatch h) (fun _ B5 H5 m5 e5 => ?_)
        exact ⟨B5, e1.trans e5, _, _, S, rfl, m5, rfl, by omega, hL⟩
    · rintro σ' B1 H1 e1 ⟨o, xs, S, rfl, m, rfl, hS, hL⟩
      obtain ⟨s2, g2⟩ := m.data (K := K) (ds := S.map .str) (ddAll_strs fun u hu => l12_len u (hL u hu)) (by rw [List.length_map]; omega)
      exact ⟨.ref fa, rfl, q _ _ _ S s2 g2 (by omega) hL⟩

/-! ### _law_drawn_text -/
def TxD (n : Nat) (d : PyData) : Prop := ∃ S : List Str, d = .tuple (S.map .str) ∧ S.length ≤ n ∧ ∀ u ∈ S, u ∈ LW
def spDrawn (K : PySem.W.Frag) : Sp := fun vs H Q _ => ∃ (p : Addr) (vg : V) (B : Hp) (n m : Nat) (rs : List PyData), vs = [.ref p, vg, .int (m : Nat)] ∧ Ok (Fm.box p) B H ∧ Dd K B vg (.tuple [.int (n : Nat), .tuple rs]) ∧ rs.length ≤ 9 ∧ (∀ r ∈ rs, RG n r) ∧ m ≤ 8 ∧
  ∀ v' B' H' d, Step (fun a => a = p) B H B' H' → Ok (Fm.box p) B' H' → Dd K B' v' d → TxD m d → Q v' H'
theorem et_gt0 {F : Fm} {σ : L2.St} {B : Hp} {te : TE} (h : EV F te σ B (fun v _ => ∃ n : Int, v = .int n)) (k : Int) : EV F (tOp (rI0 fun i j => .bl (decide (j < i))) te (tC (.int k))) σ B (fun v _ => ∃ b, v = .bl b) := fun B1 e0 H j Q q =>
  h B1 e0 H j _ fun v B2 H2 s2 j2 ⟨n, hn⟩ => ⟨n, k, hn, rfl, q _ B2 H2 s2 j2 ⟨_, rfl⟩⟩
/-- x if a test that may go either way else y -/
theorem ev_ifB {F : Fm} {σ : L2.St} {B : Hp} {t : TT} {ta tb : TE} {c : Bool} {P0 : PV} (h : EB F t σ B c) (h1 : c = true → EV F ta σ B P0) (h2 : EV F tb σ B P0) : EV F (tIf t ta tb) σ B P0 := fun B1 e0 H j Q q => h B1 e0 H j _ fun b B2 H2 s2 j2 hb => by
  cases b with
  | true =>
    show ta σ H2 Q
    exact h1 (hb rfl) B2 (e0.trans s2.bb) H2 j2 Q fun v B3 H3 s3 j3 g => q v B3 H3 (s2.trans s3) j3 g
  | false =>
    show tb σ H2 Q
    exact h2 B2 (e0.trans s2.bb) H2 j2 Q fun v B3 H3 s3 j3 g => q v B3 H3 (s2.trans s3) j3 g
theorem strs_of_all : ∀ {ds : List PyData}, (∀ d ∈ ds, ∃ u : Str, d = .str u ∧ u ∈ LW) → ∃ S : List Str, ds = S.map .str ∧ ∀ u ∈ S, u ∈ LW
  | [], _ => ⟨[], rfl, fun u hu => nomatch hu⟩
  | d :: ds, h => by
    obtain ⟨u, rfl, hu⟩ := h d List.mem_cons_self
    obtain ⟨S, rfl, hS⟩ := strs_of_all fun x hx => h x (List.mem_cons_of_mem _ hx)
    exact ⟨u :: S, rfl, fun y hy => by
      rcases List.mem_cons.mp hy with rfl | hy
      · exact hu
      · exact hS y hy⟩

abbrev s_law_drawn_text : Stmt := topS 58
abbrev N_law_drawn_text : List Str := ["box", "grammar", "most", "words", "k"]
theorem sc_law_drawn_text : FnScope N_law_drawn_text ["box", "grammar", "most"] (defScope s_law_drawn_text) := ⟨rfl, rfl, rfl, by decide +kernel, rfl, by decide +kernel, by decide +kernel⟩
theorem ok_drawn (F : Fun K "_law_drawn_text" "_law_drawn_text" s_law_drawn_text f fd) (T : TC K mg) (C_law_take : Callee P w K mg base "_law_take" 1 ["box", "many"] (spTake K)) (C_law_pick : Callee P w K mg base "_law_pick" 2 ["box", "some"] (spPick K)) (C_law_words : Callee P w K mg base "_law_words" 1 ["grammar"] (spWords K)) : FnOk P w K mg base CX0 3 f fd ["box", "grammar", "most"] (spDrawn K) := by
  refine F.ok sc_law_drawn_text (fun vs H Q E h => ?_) (fun cdv A outer s H vs Q E hr h => ?_)
  · obtain ⟨p, vg, B, n, m, rs, rfl, _⟩ := h
    rfl
  · obtain ⟨p, vg, B, n, m, rs, rfl, ok, hg, hl, hall, hm, q⟩ := h
    have hu64 : (A.deeper (envOfC "_law_drawn_text" (defScope s_law_drawn_text) s.heap.objs.size f cdv)).units + 64 < cLine := hr.units
    refine ⟨_, (pss_cons (ps_set (i := 3) sc_law_drawn_text.nd rfl (Or.inr rfl) (pe_op (op_addK K) (pe_callC C_law_words (hr.mono (by decide)) rfl pass0 (pa_cons (pv 1) pa_nil)) (pe_lst (pa_cons pe_str pa_nil))))
      (pss_one (ps_ret (pe_callTy (call_tuple_ofK K) (by rfl) T.m_tuple bt_tuple (pa_cons (pe_lc (own := [("k", 4)]) rfl sc_law_drawn_text.nd (pi_range1 rfl T.m_range (pa_cons (pe_callC C_law_take (hr.mono (by decide)) rfl pass0 (pa_cons (pv 0) (pa_cons (pe_op (op_addK K) (pv 2) pe_int) pa_nil))) pa_nil)) (blkOk_by (own := [("k", 4)]) (N := N_law_drawn_text) (sc := defScope s_law_drawn_text) (by decide +kernel)) (fun _ _ _ _ _ => pg_name (i := 4) sc_law_drawn_text.nd rfl (Or.inl rfl)) (fun _ _ _ _ _ => pts_nil) (fun _ _ _ _ _ => (pe_callC C_law_pick (hr.mono (by decide)) rfl pass0 (pa_cons (pv 0) (pa_cons (pe_ifExp (PW.pt (pw_and (pt_cmpR op_gt (pe_callB (call_lenK K) (by rfl) T.m_len bt_len (pa_cons (pv 3) pa_nil)) pe_int (nomark _)) (pw_and1 (pt_cmpR op_gt (pe_callC C_law_take (hr.mono (by decide)) rfl pass0 (pa_cons (pv 0) (pa_cons pe_int pa_nil))) pe_int (nomark _))))) (pe_slice (sl_lstK K) (pv 3) po_none (po_some (pe_un un_neg pe_int))) (pv 3)) pa_nil))))) pa_nil))))), ?_⟩
    have a : At (Fm.box p) B H B H := At.start ok
    have evw : EV (Fm.box p) (tCall (spWords K) [] E0 (tCons (tVar 1) tNil)) [some (.ref p), some vg, some (.int (m : Nat)), none, none] B (fun v B => ∃ S : List Str, Dd K B v (.list (S.map .str)) ∧ S.length ≤ 9 ∧ ∀ u ∈ S, u ∈ LW) := fun B1 e1 H1 j1 Q1 q1 =>
      ⟨vg, rfl, B1, vg, n, rs, rfl, j1.e, hg.up e1, hl, hall, fun v' B' H' S s' g' l' hS => q1 v' B' H' s'.pure (j1.pure s') ⟨S, g', l', hS⟩⟩
    have evs : EV (Fm.box p) (tOp (rAddA K) (tCall (spWords K) [] E0 (tCons (tVar 1) tNil)) (tLst (tCons (tC (.str "z")) tNil))) [some (.ref p), some vg, some (.int (m : Nat)), none, none] B (fun v B => ∃ S : List Str, Dd K B v (.list (S.map .str)) ∧ S ≠ [] ∧ S.length ≤ 10 ∧ ∀ u ∈ S, u ∈ LW) := fun B1 e1 H1 j1 Q1 q1 =>
      evw B1 e1 H1 j1 _ fun v B2 H2 s2 j2 ⟨S, g, l9, hS⟩ => (ed_op (K := K) (σ := []) (ed_v g) (ed_lst (eds_cons ed_str eds_nil)) (rd_addL (by rw [List.length_map]; show S.length + 1 ≤ 16777216; omega))) B2 (Ex.refl B2) H2 j2 _ fun v3 B3 H3 s3 j3 g3 => q1 v3 B3 H3 (s2.trans s3) j3 ⟨S ++ [("z" : Str)], by rw [List.map_append]; exact g3, by simp, by rw [List.length_append]; show S.length + 1 ≤ 10; omega, fun u hu => by
        rcases List.mem_append.mp hu with hu | hu
        · exact hS u hu
        · rw [List.mem_singleton.mp hu]
          decide +kernel⟩
    refine qv_asg a evs fun vw B1 H1 e1 a1 ⟨S, hw, hne, hS10, hSL⟩ => ?_
    refine sv_ret a1 (ev_tupL (ev_lcRN (N := m) (C := fun d => ∃ u : Str, d = .str u ∧ u ∈ LW) ?_ (by omega) (fun _ => rfl) ?_)) fun v3 B3 H3 e3 a3 h3 => ?_
    · intro B5 e5 H5 j5 Q5 q5
      refine ev_take (K := K) (m := (m : Nat) + 1) (B := B1) (p := p) (E := E0) (i := 0) rfl (ed_op (ed_var rfl (.int (m : Nat))) ed_int rd_add) (by omega) (by omega) B5 e5 H5 j5 _ fun v B6 H6 s6 j6 ⟨k, hk, k0, k1⟩ => ?_
      subst hk
      exact q5 _ B6 H6 s6 j6 ⟨k, rfl, k0, by omega⟩
    · intro i B5 e5
      have hw5 : Dd K B5 vw (.list (S.map .str)) := hw.up e5
      have some_ : EV (Fm.box p) (tIf (tAnd (tTest (tOp (rI0 fun i j => .bl (decide (j < i))) (tCB (rLnK K) (tCons (tVar 3) tNil)) (tC (.int 1)))) (tTest (tOp (rI0 fun i j => .bl (decide (j < i))) (tCall (spTake K) [] E0 (tCons (tVar 0) (tCons (tC (.int 12)) tNil))) (tC (.int 0))))) (tSl (rSlL K) (tVar 3) tNoPart (tPart (tUn (rU fun i => .int (-i)) (tC (.int 1))))) (tVar 3)) [some (.ref p), some vg, some (.int (m : Nat)), some vw, some (.int (i : Int))] B5 (fun v B => ∃ S' : List Str, Dd K B v (.list (S'.map .str)) ∧ S' ≠ [] ∧ S'.length ≤ 10 ∧ ∀ u ∈ S', u ∈ LW) := by
        refine ev_ifB (c := decide (1 < ((S.length : Nat) : Int))) (eb_and (et_is (et_cmp (K := K) (ed_op (ev_cb (eds_cons (ed_var rfl hw5) eds_nil) (rc_len rfl)) ed_int rd_gt)) (by show decide ((1 : Int) < (((S.map PyData.str).length : Nat) : Int)) = _; rw [List.length_map])) fun _ => eb_cmp (et_gt0 ((ev_take rfl ed_int (by decide) (by decide)).imp fun v B _ ⟨n, hn, _⟩ => ⟨n, hn⟩) 0) fun v B h => h) (fun hb => ?_) ((ed_var rfl hw5).imp fun v B6 _ hv => ⟨S, hv, hne, hS10, hSL⟩)
        have hb' : (1 : Int) < ((S.length : Nat) : Int) := of_decide_eq_true hb
        refine (ed_slL (ed_var rfl hw5) eo_none (eo_some (K := K) (ed_neg ed_int))).imp fun v B6 _ hv => ⟨cutL S none (some (-1)), ?_, ?_, ?_, fun u hu => hSL u (mem_cutL hu)⟩
        · have hc : (cutL S none (some (-1))).map PyData.str = cutL (S.map PyData.str) none (some (-1)) := by
            unfold cutL
            rw [List.map_take, List.map_drop, List.length_map]
          rw [hc]
          exact hv
        · intro z
          have hlen := cut_init (S := S)
          rw [z] at hlen
          have : (0 : Nat) = S.length - 1 := hlen
          omega
        · exact Nat.le_trans (cutL_len S none (some (-1))) hS10
      intro B6 e6 H6 j6 Q6 q6
      refine ⟨.ref p, rfl, some_ B6 e6 H6 j6 _ fun v7 B7 H7 s7 j7 ⟨S', g7, n7, l7, h7⟩ => ?_⟩
      refine ⟨p, [v7], B7, [.list (S'.map .str)], rfl, j7, .cons g7 .nil, ⟨_, S'.map .str, rfl, .inl rfl, fun z => n7 (List.map_eq_nil_iff.mp z), by rw [List.length_map]; omega⟩, fun v8 B8 H8 s8 j8 ⟨d', e', ed', he', h8⟩ => ?_⟩
      cases ed'
      obtain ⟨u, hu, rfl⟩ := List.mem_map.mp he'
      exact q6 v8 B8 H8 (s7.trans s8) j8 ⟨_, h8, u, rfl, h7 u hu⟩
    · obtain ⟨ds, h3, l3, hC⟩ := h3
      obtain ⟨S', rfl, hS'⟩ := strs_of_all hC
      exact q v3 B3 H3 _ a3.st a3.j h3 ⟨S', rfl, by rw [List.length_map] at l3; exact l3, hS'⟩
end
end K12

namespace K12
open PySem PySem.Spec PyProof.Rows L2 Evl Ex Dx StX
open PySem.PyData (strOk)
section
variable {P : Program} {w : World} {K : PySem.W.Frag} {mg : Str → Option Value} {base : Heap} {f : Addr} {fd : FuncData}


theorem ddAll_mkI {H : Hp} : ∀ S : List Int, DdAll K H (S.map V.int) (S.map .int)
  | [] => .nil
  | x :: S => .cons (.int x) (ddAll_mkI S)
theorem flatMap_succ2 {α : Type} (n : Nat) (g : Nat → List α) : (List.range (n + 1)).flatMap g = (List.range n).flatMap g ++ g n := by
  rw [List.range_succ, List.flatMap_append, List.flatMap_cons, List.flatMap_nil, List.append_nil]
/-! ### _law_order -/
def openO (es : List (Int × Int)) (S : List Int) (k : Int) (p : Int × Int) : Bool := (p.1 == k) && !S.contains p.2
def stepO (es : List (Int × Int)) (S : List Int) (k : Int) : List Int := if (!S.contains k && (es.filter (openO es S k)).isEmpty) = true then S ++ [k] else S
def roundO (es : List (Int × Int)) (n : Nat) (S : List Int) : Nat → List Int
  | 0 => S
  | i + 1 => stepO es (roundO es n S i) (i : Int)
def orderO (es : List (Int × Int)) (n : Nat) : Nat → List Int
  | 0 => []
  | t + 1 => roundO es n (orderO es n t) n
theorem stepO_len (es : List (Int × Int)) (S : List Int) (k : Int) : (stepO es S k).length ≤ S.length + 1 := by
  unfold stepO
  split
  · rw [List.length_append]
    exact Nat.le_refl _
  · omega
theorem roundO_len (es : List (Int × Int)) (n : Nat) (S : List Int) : ∀ i, (roundO es n S i).length ≤ S.length + i
  | 0 => Nat.le_refl _
  | i + 1 => Nat.le_trans (stepO_len _ _ _) (by have := roundO_len es n S i; omega)
theorem orderO_len (es : List (Int × Int)) (n : Nat) : ∀ t, (orderO es n t).length ≤ t * n
  | 0 => Nat.zero_le _
  | t + 1 => by
    have h1 := roundO_len es n (orderO es n t) n
    have h2 := orderO_len es n t
    show (roundO es n (orderO es n t) n).length ≤ _
    rw [Nat.succ_mul]
    omega
def InR (n : Nat) (S : List Int) : Prop := ∀ x ∈ S, 0 ≤ x ∧ x < (n : Nat)
theorem stepO_in {es : List (Int × Int)} {n : Nat} {S : List Int} {k : Int} (h : InR n S) (hk : 0 ≤ k ∧ k < (n : Nat)) : InR n (stepO es S k) := by
  unfold stepO
  split
  · intro x hx
    rcases List.mem_append.mp hx with hx | hx
    · exact h x hx
    · rw [List.mem_singleton.mp hx]
      exact hk
  · exact h
theorem roundO_in {es : List (Int × Int)} {n : Nat} {S : List Int} (h : InR n S) : ∀ i, i ≤ n → InR n (roundO es n S i)
  | 0, _ => h
  | i + 1, hi => stepO_in (roundO_in h i (by omega)) ⟨by omega, by omega⟩
theorem orderO_in {es : List (Int × Int)} {n : Nat} : ∀ t, InR n (orderO es n t)
  | 0 => fun _ h => nomatch h
  | t + 1 => roundO_in (orderO_in t) n (Nat.le_refl _)
def fOrd : List PyData → PyData
  | [.int n, .tuple rs] => .list ((orderO (edges rs) n.toNat n.toNat).map .int)
  | _ => .none
def preOrd (ds : List PyData) : Prop := ∃ (rs : List PyData) (n : Nat), ds = [.int (n : Nat), .tuple rs] ∧ rs.length ≤ 100 ∧ n ≤ 40 ∧ ∀ r ∈ rs, ruleD r n = true
theorem isE_flt {α : Type} (l : List α) (p : α → Bool) (f : α → PyData) : (List.map f (l.filter p)).isEmpty = (l.filter p).isEmpty := by
  cases l.filter p <;> rfl

abbrev s_law_order : Stmt := topS 52
abbrev N_law_order : List Str := ["kinds", "rules", "found", "steps", "turn", "kind", "pair"]
theorem sc_law_order : FnScope N_law_order ["kinds", "rules"] (defScope s_law_order) := ⟨rfl, rfl, rfl, by decide +kernel, rfl, by decide +kernel, by decide +kernel⟩
theorem ok_law_order (F : Fun K "_law_order" "_law_order" s_law_order f fd) (T : TC K mg) (C_law_unary : Callee P w K mg base "_law_unary" 1 ["rules"] (spF K preUn fUn)) : FnOk P w K mg base CX0 2 f fd ["kinds", "rules"] (spF K preOrd fOrd) := by
  refine F.ok sc_law_order (fun vs H Q E h => ?_) (fun cdv A outer s H vs Q E hr h => ?_)
  · obtain ⟨B, ds, e, hd, ⟨rs, n, rfl, _⟩, q⟩ := h
    exact hd.len
  · obtain ⟨B, ds, e, hd, ⟨rs, n, rfl, hl, hn, hall⟩, q⟩ := h
    obtain ⟨v, v2, rfl, hv, hrs⟩ := arg2 hd
    obtain rfl := dd_int hv
    have hu64 : (A.deeper (envOfC "_law_order" (defScope s_law_order) s.heap.objs.size f cdv)).units + 64 < cLine := hr.units
    refine ⟨_, (pss_cons (ps_set (i := 2) sc_law_order.nd rfl (Or.inr rfl) (pe_lst pa_nil))
      (pss_cons (ps_set (i := 3) sc_law_order.nd rfl (Or.inl rfl) (pe_callC C_law_unary (hr.mono (by decide)) rfl pass0 (pa_cons (pv 1) pa_nil)))
      (pss_cons (ps_for PassesOwn.never rfl (pi_range1 rfl T.m_range (pa_cons (pv 0) pa_nil)) (pg_name (i := 4) sc_law_order.nd rfl (Or.inl rfl)) (pss_one (ps_for PassesOwn.never rfl (pi_range1 rfl T.m_range (pa_cons (pv 0) pa_nil)) (pg_name (i := 5) sc_law_order.nd rfl (Or.inr rfl)) (pss_one (ps_if (PW.pt (pw_and (pt_cmpR (op_ninK K) (pv 5) (pv 2) (by rfl)) (pw_and1 (pt_cmpR (op_eqDK K hu64) (pe_lc (own := [("pair", 6)]) rfl sc_law_order.nd (pi_seqK K (pv 3)) (blkOk_by (own := [("pair", 6)]) (N := N_law_order) (sc := defScope s_law_order) (by decide +kernel)) (fun _ _ _ _ _ => pg_name (i := 6) sc_law_order.nd rfl (Or.inl rfl)) (fun _ _ _ _ _ => (pts_one (PW.pt (pw_and (pt_cmpR (op_eqDK K hu64) (pe_ix (ix_seqK K) (pv 6) pe_int (fun _ _ => rfl)) (pv 5) (nomark _)) (pw_and1 (pt_cmpR (op_ninK K) (pe_ix (ix_seqK K) (pv 6) pe_int (fun _ _ => rfl)) (pv 2) (by rfl))))))) (fun _ _ _ _ _ => (pv 6))) (pe_lst pa_nil) (nomark _))))) (pss_one (ps_expr (pe_bm PySem.F.plainAttrs_list PySem.F.slot_list_append PySem.F.type_list_append mt_append (pv 2) (pa_cons (pv 5) pa_nil)))) pss_nil)))))
      (pss_one (ps_ret (pv 2)))))), ?_⟩
    have el : (edges rs).length ≤ 100 := by
      unfold edges
      rw [List.length_map]
      exact Nat.le_trans (List.length_filter_le _ _) hl
    refine qs_new (i := 2) (Ok.any e) fun fa m0 => ?_
    refine qs_asg (P0 := DD K (.list ((edges rs).map toD))) m0 (ed_F (eds_cons (ed_var rfl hrs) eds_nil) ⟨_, rs, n, rfl, .inr rfl, hl, hall⟩ rfl) fun v3 B1 H1 m1 e1 h3 => ?_
    refine oq_rng1 (K := K) (n := (n : Nat)) (j := 4) m1.ok (eds_cons (ed_var rfl (.int _)) eds_nil) (by omega) (fun t σ' B' H' => (∃ o1 o2, σ' = [some (.int (n : Nat)), some v2, some (.ref fa), some v3, o1, o2, none]) ∧ Ex B1 B' ∧ S1 B H B' H' fa ((orderO (edges rs) n t).map V.int))
      (fun B2 H2 s2 k2 => ⟨⟨_, _, rfl⟩, s2.bb, m1.pass s2⟩) (fun Bb t σ' B2 H2 eb ht e2 hi => ?_) (fun σ' B2 H2 e2 hi => ?_)
    · obtain ⟨⟨o1, o2, rfl⟩, eB, m2⟩ := hi
      refine os_rng1 (K := K) (n := (n : Nat)) (j := 5) m2.ok (eds_cons (ed_var rfl (.int _)) eds_nil) (by omega) (fun i σ' B' H' => (∃ o2, σ' = [some (.int (n : Nat)), some v2, some (.ref fa), some v3, some (.int (t : Nat)), o2, none]) ∧ Ex B2 B' ∧ S1 B H B' H' fa ((roundO (edges rs) n (orderO (edges rs) n t) i).map V.int))
        (fun B3 H3 s3 k3 => ⟨⟨_, rfl⟩, s3.bb, m2.pass s3⟩) (fun Bc i σ' B3 H3 ec hi3 e3 hj => ?_) (fun σ' B3 H3 e3 hj => ?_)
      · obtain ⟨⟨o3, rfl⟩, eC, m3⟩ := hj
        have eBC := eB.trans eC
        generalize hS : roundO (edges rs) n (orderO (edges rs) n t) i = S at m3
        have hSl : S.length ≤ 2000 := by
          rw [← hS]
          refine Nat.le_trans (roundO_len _ _ _ _) ?_
          have h2 := orderO_len (edges rs) n t
          have ht' : t < n := by omega
          have : t * n ≤ 40 * 40 := Nat.mul_le_mul (by omega) hn
          omega
        have e2S : roundO (edges rs) n (orderO (edges rs) n t) (i + 1) = stepO (edges rs) S (i : Int) := by
          rw [← hS]
          rfl
        refine os_if (b := !S.contains (i : Int) && ((edges rs).filter (openO (edges rs) S (i : Int))).isEmpty) m3 (et_and (et_ninI (K := K) (i := 2) rfl (ed_var rfl (.int _)) rfl) fun _ => et_is (et_cmp (K := K) (ed_op (ed_lcD (j := 6) (vsN := [6]) (fun d => openO (edges rs) S (i : Int) (ofD d)) (fun d => d) (ev_seqL (ed_var rfl (h3.up eBC))) (by rw [List.length_map]; omega) (fun _ => rfl) (fun d u B4 hm e4 hd4 => by
              obtain ⟨⟨x, y⟩, _, rfl⟩ := List.mem_map.mp hm
              exact et_and (et_is (et_cmp (ed_op (K := K) (ed_op (ed_var rfl hd4) ed_int (rd_ixT at2_0)) (ed_var rfl (.int (i : Nat))) (rd_eqD rfl rfl))) (eqv_int _ _)) fun _ => et_ninI (K := K) (i := 2) rfl (ed_op (ed_var rfl hd4) ed_int (rd_ixT at2_1)) rfl) (fun d u B4 hm _ e4 hd4 => ed_var rfl hd4)) (ed_lst eds_nil) (rd_eqD (Sm.sh (sm_filter (n := 59) fun d hd => by
              obtain ⟨⟨x, y⟩, _, rfl⟩ := List.mem_map.mp hd
              exact sm_tup (n := 58) fun y hy => by
                simp only [List.mem_cons, List.mem_nil_iff, or_false] at hy
                rcases hy with rfl | rfl <;> exact sm_int)) rfl))) (by
            rw [eqv_nil, List.map_id']
            have : ((edges rs).map toD).filter (fun d => openO (edges rs) S (i : Int) (ofD d)) = ((edges rs).filter (openO (edges rs) S (i : Int))).map toD := by
              rw [List.filter_map]
              rfl
            rw [this, isE_flt])) (fun hb B4 H4 m4 e4 => ?_) (fun hb B4 H4 m4 e4 => ?_)
        · refine ss_app (K := K) (d := .int (i : Nat)) m4 rfl (ed_var rfl (.int _)) (by rw [List.length_map]; omega) fun v5 B5 H5 m5 e5 h5 => ?_
          obtain rfl := dd_int h5
          refine ⟨B5, e3.trans (e4.trans e5), ⟨_, rfl⟩, eC.trans (e4.trans e5), ?_⟩
          rw [e2S]
          unfold stepO
          rw [if_pos hb, List.map_append]
          exact m5
        · refine ⟨B4, e3.trans e4, ⟨_, rfl⟩, eC.trans e4, ?_⟩
          rw [e2S]
          unfold stepO
          rw [if_neg (by rw [hb]; decide)]
          exact m4
      · obtain ⟨⟨o3, rfl⟩, eC, m3⟩ := hj
        exact ⟨B3, e2.trans e3, ⟨_, _, rfl⟩, eB.trans eC, m3⟩
    · obtain ⟨⟨o1, o2, rfl⟩, eB, m2⟩ := hi
      rw [Int.toNat_natCast] at m2
      have hlen : (orderO (edges rs) n n).length ≤ 1600 := Nat.le_trans (orderO_len _ _ _) (Nat.le_trans (Nat.mul_le_mul hn hn) (by decide))
      obtain ⟨s3, g3⟩ := m2.data (K := K) (ds := (orderO (edges rs) n n).map .int) (ddAll_mkI _) (by rw [List.length_map]; omega)
      exact ⟨.ref fa, rfl, q _ _ _ s3 g3⟩

/-! ### _law_sorted_cells -/
def c4 (n sz i a b : Nat) : List (List Int) := if (decide (((i : Int) + (a : Int)) + (b : Int) ≤ ((i : Int) + (a : Int)) + (b : Int) + (sz : Int) - ((i : Int) + (a : Int) - (i : Int))) && decide (((i : Int) + (a : Int)) + (b : Int) + (sz : Int) - ((i : Int) + (a : Int) - (i : Int)) ≤ (n : Int))) = true then [[(i : Int), (i : Int) + (a : Int), ((i : Int) + (a : Int)) + (b : Int), ((i : Int) + (a : Int)) + (b : Int) + (sz : Int) - ((i : Int) + (a : Int) - (i : Int))]] else []
def c3 (n sz i a : Nat) : List (List Int) := (List.range (n + 1 - (i + a))).flatMap (c4 n sz i a)
def c2 (n sz i : Nat) : List (List Int) := (List.range (n + 1 - i)).flatMap (c3 n sz i)
def c1 (n sz : Nat) : List (List Int) := (List.range (n + 1)).flatMap (c2 n sz)
def cellsL (n : Nat) : List (List Int) := (List.range (n + 1)).flatMap (c1 n)
theorem c4_len (n sz i a b : Nat) : (c4 n sz i a b).length ≤ 1 := by
  unfold c4
  split
  · exact Nat.le_refl _
  · exact Nat.zero_le _
theorem flm_le {α : Type} {g : Nat → List α} {m : Nat} (n : Nat) (h : ∀ i, (g i).length ≤ m) : ((List.range n).flatMap g).length ≤ n * m := flat_le fun i _ => h i
theorem c3_len {n : Nat} (sz i a : Nat) (h : n ≤ 40) : (c3 n sz i a).length ≤ 41 := Nat.le_trans (flm_le _ (c4_len n sz i a)) (by omega)
theorem c2_len {n : Nat} (sz i : Nat) (h : n ≤ 40) : (c2 n sz i).length ≤ 1681 := Nat.le_trans (flm_le _ fun a => c3_len sz i a h) (Nat.le_trans (Nat.mul_le_mul_right 41 (show n + 1 - i ≤ 41 by omega)) (by decide))
theorem c1_len {n : Nat} (sz : Nat) (h : n ≤ 40) : (c1 n sz).length ≤ 68921 := Nat.le_trans (flm_le _ fun i => c2_len sz i h) (Nat.le_trans (Nat.mul_le_mul_right 1681 (show n + 1 ≤ 41 by omega)) (by decide))
def fCells : List PyData → PyData
  | [.int n] => .list ((cellsL n.toNat).map cellD)
  | _ => .none
def preCl (ds : List PyData) : Prop := ∃ n : Nat, ds = [.int (n : Nat)] ∧ n ≤ 40

abbrev s_law_sorted_cells : Stmt := topS 53
abbrev N_law_sorted_cells : List Str := ["n", "found", "size", "i", "j", "k", "l"]
theorem sc_law_sorted_cells : FnScope N_law_sorted_cells ["n"] (defScope s_law_sorted_cells) := ⟨rfl, rfl, rfl, by decide +kernel, rfl, by decide +kernel, by decide +kernel⟩
theorem ok_law_sorted_cells (F : Fun K "_law_sorted_cells" "_law_sorted_cells" s_law_sorted_cells f fd) (T : TC K mg) : FnOk P w K mg base CX0 1 f fd ["n"] (spF K preCl fCells) := by
  refine F.ok sc_law_sorted_cells (fun vs H Q E h => ?_) (fun cdv A outer s H vs Q E hr h => ?_)
  · obtain ⟨B, ds, e, hd, ⟨n, rfl, _⟩, q⟩ := h
    exact hd.len
  · obtain ⟨B, ds, e, hd, ⟨n, rfl, hn⟩, q⟩ := h
    obtain ⟨v, rfl, hv⟩ := arg1 hd
    obtain rfl := dd_int hv
    refine ⟨_, (pss_cons (ps_set (i := 1) sc_law_sorted_cells.nd rfl (Or.inl rfl) (pe_lst pa_nil))
      (pss_cons (ps_for PassesOwn.never rfl (pi_range1 rfl T.m_range (pa_cons (pe_op (op_addK K) (pv 0) pe_int) pa_nil)) (pg_name (i := 2) sc_law_sorted_cells.nd rfl (Or.inl rfl)) (pss_one (ps_for PassesOwn.never rfl (pi_range1 rfl T.m_range (pa_cons (pe_op (op_addK K) (pv 0) pe_int) pa_nil)) (pg_name (i := 3) sc_law_sorted_cells.nd rfl (Or.inl rfl)) (pss_one (ps_for PassesOwn.never rfl (pi_range2 rfl T.m_range (pa_cons (pv 3) (pa_cons (pe_op (op_addK K) (pv 0) pe_int) pa_nil))) (pg_name (i := 4) sc_law_sorted_cells.nd rfl (Or.inl rfl)) (pss_one (ps_for PassesOwn.never rfl (pi_range2 rfl T.m_range (pa_cons (pv 4) (pa_cons (pe_op (op_addK K) (pv 0) pe_int) pa_nil))) (pg_name (i := 5) sc_law_sorted_cells.nd rfl (Or.inl rfl)) (pss_cons (ps_set (i := 6) sc_law_sorted_cells.nd rfl (Or.inl rfl) (pe_op op_sub (pe_op (op_addK K) (pv 5) (pv 2)) (pe_op op_sub (pv 4) (pv 3))))
      (pss_one (ps_if (PW.pt (pw_and (pt_cmpR op_le (pv 5) (pv 6) (nomark _)) (pw_and1 (pt_cmpR op_le (pv 6) (pv 0) (nomark _))))) (pss_one (ps_expr (pe_bm PySem.F.plainAttrs_list PySem.F.slot_list_append PySem.F.type_list_append mt_append (pv 1) (pa_cons (pe_tup (pa_cons (pv 3) (pa_cons (pv 4) (pa_cons (pv 5) (pa_cons (pv 6) pa_nil))))) pa_nil)))) pss_nil))))))))))
      (pss_one (ps_ret (pv 1))))), ?_⟩
    have rg1 : ∀ (σ : L2.St) B', σ[0]? = some (some (V.int (n : Nat))) → EDs Fm.pure K (tCons (tOp (rAddA K) (tVar 0) (tC (.int 1))) tNil) σ B' [.int ((n : Int) + 1)] := fun σ B' hσ => eds_cons (ed_op (ed_var hσ (.int _)) ed_int rd_add) eds_nil
    refine qs_new (i := 1) (Ok.any e) fun fa m0 => ?_
    refine oq_rng1 (K := K) (n := (n : Int) + 1) (j := 2) m0.ok (rg1 _ _ rfl) (by omega) (fun sz σ' B' H' => (∃ o3 o4 o5 o6 o7, σ' = [some (.int (n : Nat)), some (.ref fa), o3, o4, o5, o6, o7]) ∧ ∃ xs, S1 B H B' H' fa xs ∧ DdAll K B' xs (((List.range sz).flatMap (c1 n)).map cellD))
      (fun B2 H2 s2 k2 => ⟨⟨_, _, _, _, _, rfl⟩, _, m0.pass s2, .nil⟩) (fun Bb sz σ' B2 H2 eb hs e2 hi => ?_) (fun σ' B2 H2 e2 hi => ?_)
    · obtain ⟨⟨o3, o4, o5, o6, o7, rfl⟩, xs, m2, g2⟩ := hi
      have l1 : ((List.range sz).flatMap (c1 n)).length ≤ sz * 68921 := flm_le _ fun i => c1_len i hn
      have hs' : sz ≤ n := by omega
      refine os_rng1 (K := K) (n := (n : Int) + 1) (j := 3) m2.ok (rg1 _ _ rfl) (by omega) (fun i σ' B' H' => (∃ o4 o5 o6 o7, σ' = [some (.int (n : Nat)), some (.ref fa), some (.int (sz : Nat)), o4, o5, o6, o7]) ∧ Ex B2 B' ∧ ∃ xs, S1 B H B' H' fa xs ∧ DdAll K B' xs (((List.range sz).flatMap (c1 n) ++ (List.range i).flatMap (c2 n sz)).map cellD))
        (fun B3 H3 s3 k3 => ⟨⟨_, _, _, _, rfl⟩, s3.bb, _, m2.pass s3, by rw [List.range_zero, List.flatMap_nil, List.append_nil]; exact g2.up s3.bb⟩) (fun Bc i σ' B3 H3 ec hi e3 hj => ?_) (fun σ' B3 H3 e3 hj => ?_)
      · obtain ⟨⟨o4, o5, o6, o7, rfl⟩, eC, xs3, m3, g3⟩ := hj
        have hi' : i ≤ n := by omega
        have l2 : ((List.range i).flatMap (c2 n sz)).length ≤ i * 1681 := flm_le _ fun i => c2_len sz i hn
        refine os_rng2 (K := K) (lo := (i : Int)) (n := (n : Int) + 1) (j := 4) m3.ok (eds_cons (ed_var rfl (.int _)) (rg1 _ _ rfl)) (by omega) (fun a σ' B' H' => (∃ o5 o6 o7, σ' = [some (.int (n : Nat)), some (.ref fa), some (.int (sz : Nat)), some (.int (i : Nat)), o5, o6, o7]) ∧ Ex B3 B' ∧ ∃ xs, S1 B H B' H' fa xs ∧ DdAll K B' xs ((((List.range sz).flatMap (c1 n) ++ (List.range i).flatMap (c2 n sz)) ++ (List.range a).flatMap (c3 n sz i)).map cellD))
          (fun B4 H4 s4 k4 => ⟨⟨_, _, _, rfl⟩, s4.bb, _, m3.pass s4, by rw [List.range_zero, List.flatMap_nil, List.append_nil]; exact g3.up s4.bb⟩) (fun Bd a σ' B4 H4 ed ha e4 hk => ?_) (fun σ' B4 H4 e4 hk => ?_)
        · obtain ⟨⟨o5, o6, o7, rfl⟩, eD, xs4, m4, g4⟩ := hk
          have l3 : ((List.range a).flatMap (c3 n sz i)).length ≤ a * 41 := flm_le _ fun a => c3_len sz i a hn
          have ha' : a ≤ 40 := by omega
          refine os_rng2 (K := K) (lo := (i : Int) + (a : Int)) (n := (n : Int) + 1) (j := 5) m4.ok (eds_cons (ed_var rfl (.int _)) (rg1 _ _ rfl)) (by omega) (fun b σ' B' H' => (∃ o6 o7, σ' = [some (.int (n : Nat)), some (.ref fa), some (.int (sz : Nat)), some (.int (i : Nat)), some (.int ((i : Int) + (a : Int))), o6, o7]) ∧ Ex B4 B' ∧ ∃ xs, S1 B H B' H' fa xs ∧ DdAll K B' xs (((((List.range sz).flatMap (c1 n) ++ (List.range i).flatMap (c2 n sz)) ++ (List.range a).flatMap (c3 n sz i)) ++ (List.range b).flatMap (c4 n sz i a)).map cellD))
            (fun B5 H5 s5 k5 => ⟨⟨_, _, rfl⟩, s5.bb, _, m4.pass s5, by rw [List.range_zero, List.flatMap_nil, List.append_nil]; exact g4.up s5.bb⟩) (fun Be b σ' B5 H5 ee hb e5 hl => ?_) (fun σ' B5 H5 e5 hl => ?_)
          · obtain ⟨⟨o6, o7, rfl⟩, eE, xs5, m5, g5⟩ := hl
            have l4 : ((List.range b).flatMap (c4 n sz i a)).length ≤ b * 1 := flm_le _ (c4_len n sz i a)
            have hb' : b ≤ 40 := by omega
            refine qs_asg (P0 := DD K (.int (((i : Int) + (a : Int)) + (b : Int) + (sz : Int) - ((i : Int) + (a : Int) - (i : Int))))) m5 (ed_op (ed_op (ed_var rfl (.int _)) (ed_var rfl (.int _)) rd_add) (ed_op (ed_var rfl (.int _)) (ed_var rfl (.int _)) rd_sub) rd_sub) fun v6 B6 H6 m6 e6 h6 => ?_
            obtain rfl := dd_int h6
            have lx : xs5.length < 16777216 := by
              rw [g5.len, List.length_map, List.length_append, List.length_append, List.length_append]
              have : sz * 68921 ≤ 40 * 68921 := Nat.mul_le_mul_right _ (by omega)
              omega
            have cc : ∀ Bx : Hp, DdAll K Bx xs5 _ → c4 n sz i a b = [] → DdAll K Bx xs5 (((((List.range sz).flatMap (c1 n) ++ (List.range i).flatMap (c2 n sz)) ++ (List.range a).flatMap (c3 n sz i)) ++ (List.range (b + 1)).flatMap (c4 n sz i a)).map cellD) := fun Bx g h0 => by
              rw [flatMap_succ2, h0, List.append_nil]
              exact g
            refine ss_if (b := decide (((i : Int) + (a : Int)) + (b : Int) ≤ ((i : Int) + (a : Int)) + (b : Int) + (sz : Int) - ((i : Int) + (a : Int) - (i : Int))) && decide (((i : Int) + (a : Int)) + (b : Int) + (sz : Int) - ((i : Int) + (a : Int) - (i : Int)) ≤ (n : Int))) m6
              (et_and (et_cmp (K := K) (ed_op (ed_var rfl (.int _)) (ed_var rfl (.int _)) rd_le)) fun _ => et_cmp (K := K) (ed_op (ed_var rfl (.int _)) (ed_var rfl (.int _)) rd_le)) (fun ht B7 H7 m7 e7 => ?_) (fun ht B7 H7 m7 e7 => ?_)
            · refine ss_app (K := K) (d := cellD [(i : Int), (i : Int) + (a : Int), ((i : Int) + (a : Int)) + (b : Int), ((i : Int) + (a : Int)) + (b : Int) + (sz : Int) - ((i : Int) + (a : Int) - (i : Int))]) m7 rfl (ed_tup (eds_cons (ed_var rfl (.int _)) (eds_cons (ed_var rfl (.int _)) (eds_cons (ed_var rfl (.int _)) (eds_cons (ed_var rfl (.int _)) eds_nil))))) lx fun v8 B8 H8 m8 e8 h8 => ?_
              refine ⟨B8, e5.trans (e6.trans (e7.trans e8)), ⟨_, _, rfl⟩, eE.trans (e6.trans (e7.trans e8)), _, m8, ?_⟩
              have hc : c4 n sz i a b = [[(i : Int), (i : Int) + (a : Int), ((i : Int) + (a : Int)) + (b : Int), ((i : Int) + (a : Int)) + (b : Int) + (sz : Int) - ((i : Int) + (a : Int) - (i : Int))]] := by
                unfold c4
                rw [if_pos ht]
              rw [flatMap_succ2, hc, ← List.append_assoc, List.map_append]
              exact (g5.up (e6.trans (e7.trans e8))).snoc h8
            · refine ⟨B7, e5.trans (e6.trans e7), ⟨_, _, rfl⟩, eE.trans (e6.trans e7), _, m7, cc _ (g5.up (e6.trans e7)) ?_⟩
              unfold c4
              rw [if_neg (by rw [ht]; decide)]
          · obtain ⟨⟨o6, o7, rfl⟩, eE, xs5, m5, g5⟩ := hl
            refine ⟨B5, e4.trans e5, ⟨_, _, _, rfl⟩, eD.trans eE, xs5, m5, ?_⟩
            rw [flatMap_succ2, ← List.append_assoc, show c3 n sz i a = (List.range ((n : Int) + 1 - ((i : Int) + (a : Int))).toNat).flatMap (c4 n sz i a) by unfold c3; congr 2; omega]
            exact g5
        · obtain ⟨⟨o5, o6, o7, rfl⟩, eD, xs4, m4, g4⟩ := hk
          refine ⟨B4, e3.trans e4, ⟨_, _, _, _, rfl⟩, eC.trans eD, xs4, m4, ?_⟩
          rw [flatMap_succ2, ← List.append_assoc, show c2 n sz i = (List.range ((n : Int) + 1 - (i : Int)).toNat).flatMap (c3 n sz i) by unfold c2; congr 2; omega]
          exact g4
      · obtain ⟨⟨o4, o5, o6, o7, rfl⟩, eC, xs3, m3, g3⟩ := hj
        refine ⟨B3, e2.trans e3, ⟨_, _, _, _, _, rfl⟩, xs3, m3, ?_⟩
        rw [flatMap_succ2, show c1 n sz = (List.range ((n : Int) + 1).toNat).flatMap (c2 n sz) by unfold c1; congr 2]
        exact g3
    · obtain ⟨⟨o3, o4, o5, o6, o7, rfl⟩, xs, m2, g2⟩ := hi
      have ec : (List.range ((n : Int) + 1).toNat).flatMap (c1 n) = cellsL n := by unfold cellsL; congr 2
      rw [ec] at g2
      have hz : ((cellsL n).map cellD).length ≤ 16777216 := by
        rw [List.length_map]
        refine Nat.le_trans (flm_le _ fun i => c1_len i hn) ?_
        have : (n + 1) * 68921 ≤ 41 * 68921 := Nat.mul_le_mul_right _ (by omega)
        omega
      obtain ⟨s3, g3⟩ := m2.data (K := K) g2 hz
      exact ⟨.ref fa, rfl, q _ _ _ s3 g3⟩
end
end K12

namespace K12
open PySem PySem.Spec PyProof.Rows L2 Evl Ex Dx StX
open PySem.PyData (strOk)
section
variable {P : Program} {w : World} {K : PySem.W.Frag} {mg : Str → Option Value} {base : Heap} {f : Addr} {fd : FuncData}


/-! ### _law_splits -/
def pairKD (p : List Int × List Int) : PyData := .tuple [cellD p.1, cellD p.2]
def rowW (o ot i j k l : Int) (c : Nat) : List (List Int × List Int) := (List.range (l + 1 - k).toNat).map fun d : Nat => ([o, i, i + (c : Int), k + (d : Int), l], [ot, i + (c : Int), j, k, k + (d : Int)])
def rowA (o ot i j k l : Int) (c : Nat) : List (List Int × List Int) := (List.range (i + (c : Int) + 1 - i).toNat).map fun d : Nat => ([o, i + (c : Int), j, k, l], [ot, i, i + (d : Int), i + (d : Int), i + (c : Int)])
def rowB (o ot i j k l : Int) (c : Nat) : List (List Int × List Int) := (List.range (l + 1 - (k + (c : Int))).toNat).map fun d : Nat => ([o, i, j, k, k + (c : Int)], [ot, k + (c : Int), k + (c : Int) + (d : Int), k + (c : Int) + (d : Int), l])
def accR (f : Nat → List (List Int × List Int)) (n : Nat) : List (List Int × List Int) := (List.range n).flatMap f
theorem accR_succ (f : Nat → List (List Int × List Int)) (n : Nat) : accR f (n + 1) = accR f n ++ f n := flatMap_succ2 n f
def splitsM (how : Str) (o ot i j k l : Int) : List (List Int × List Int) :=
  if (how == ("wrap" : Str)) = true then accR (rowW o ot i j k l) (j + 1 - i).toNat else if (how == ("ahead" : Str)) = true then accR (rowA o ot i j k l) (j + 1 - i).toNat else accR (rowB o ot i j k l) (l + 1 - k).toNat
def fSpl : List PyData → PyData
  | [.tuple [_, .str how, .int o, .int ot], .tuple [.int i, .int j, .int k, .int l]] => .list ((splitsM how o ot i j k l).map pairKD)
  | _ => .none
def In100 (i : Int) : Prop := 0 ≤ i ∧ i ≤ 100
def preSpl (ds : List PyData) : Prop := ∃ (r0 : PyData) (how : Str) (o ot i j k l : Int), ds = [.tuple [r0, .str how, .int o, .int ot], .tuple [.int i, .int j, .int k, .int l]] ∧ SeqAt.shaped (.str how) = true ∧ In100 i ∧ In100 j ∧ In100 k ∧ In100 l
theorem acc_len {f : Nat → List (List Int × List Int)} {m : Nat} (n : Nat) (h : ∀ c, c < n → (f c).length ≤ m) : (accR f n).length ≤ n * m := flat_le h
theorem map_all {α : Type} (l : List α) (g : α → PyData) : (l.filter fun _ => true).map g = l.map g := by rw [List.filter_eq_self.mpr (fun _ _ => rfl)]

abbrev s_law_splits : Stmt := topS 56
abbrev N_law_splits : List Str := ["rule", "cell", "i", "j", "k", "l", "one", "other", "found", "g", "h"]
theorem sc_law_splits : FnScope N_law_splits ["rule", "cell"] (defScope s_law_splits) := ⟨rfl, rfl, rfl, by decide +kernel, rfl, by decide +kernel, by decide +kernel⟩
theorem ok_law_splits (F : Fun K "_law_splits" "_law_splits" s_law_splits f fd) (T : TC K mg) : FnOk P w K mg base CX0 1 f fd ["rule", "cell"] (spF K preSpl fSpl) := by
  refine F.ok sc_law_splits (fun vs H Q E h => ?_) (fun cdv A outer s H vs Q E hr h => ?_)
  · obtain ⟨B, ds, e, hd, ⟨r0, how, o, ot, i, j, k, l, rfl, _⟩, q⟩ := h
    exact hd.len
  · obtain ⟨B, ds, ex, hd, ⟨r0, how, o, ot, i, j, k, l, rfl, hsh, ⟨i0, i1⟩, ⟨j0, j1⟩, ⟨k0, k1⟩, ⟨l0, l1⟩⟩, q⟩ := h
    obtain ⟨v, u, rfl, hv, hu⟩ := arg2 hd
    have hu64 : (A.deeper (envOfC "_law_splits" (defScope s_law_splits) s.heap.objs.size f cdv)).units + 64 < cLine := hr.units
    refine ⟨_, (pss_cons (ps_asg (pv 1) (pg_tup (by rfl) (pgs_cons (pg_name (i := 2) sc_law_splits.nd rfl (Or.inr rfl)) (pgs_cons (pg_name (i := 3) sc_law_splits.nd rfl (Or.inr rfl)) (pgs_cons (pg_name (i := 4) sc_law_splits.nd rfl (Or.inr rfl)) (pgs_cons (pg_name (i := 5) sc_law_splits.nd rfl (Or.inr rfl)) pgs_nil))))))
      (pss_cons (ps_asg (pe_slice (sl_anyK K) (pv 0) (po_some pe_int) po_none) (pg_tup (by rfl) (pgs_cons (pg_name (i := 6) sc_law_splits.nd rfl (Or.inr rfl)) (pgs_cons (pg_name (i := 7) sc_law_splits.nd rfl (Or.inr rfl)) pgs_nil))))
      (pss_cons (ps_set (i := 8) sc_law_splits.nd rfl (Or.inl rfl) (pe_lst pa_nil))
      (Evl.pss_cut (ps_if (pt_cmpR (op_eqDK K hu64) (pe_ix (ix_seqK K) (pv 0) pe_int (fun _ _ => rfl)) pe_str (nomark _)) (pss_one (ps_for PassesOwn.never rfl (pi_range2 rfl T.m_range (pa_cons (pv 2) (pa_cons (pe_op (op_addK K) (pv 3) pe_int) pa_nil))) (pg_name (i := 9) sc_law_splits.nd rfl (Or.inr rfl)) (pss_one (ps_set (i := 8) sc_law_splits.nd rfl (Or.inl rfl) (pe_op (op_addK K) (pv 8) (pe_lc (own := [("h", 10)]) rfl sc_law_splits.nd (pi_range2 rfl T.m_range (pa_cons (pv 4) (pa_cons (pe_op (op_addK K) (pv 5) pe_int) pa_nil))) (blkOk_by (own := [("h", 10)]) (N := N_law_splits) (sc := defScope s_law_splits) (by decide +kernel)) (fun _ _ _ _ _ => pg_name (i := 10) sc_law_splits.nd rfl (Or.inl rfl)) (fun _ _ _ _ _ => pts_nil) (fun _ _ _ _ _ => (pe_tup (pa_cons (pe_tup (pa_cons (pv 6) (pa_cons (pv 2) (pa_cons (pv 9) (pa_cons (pv 10) (pa_cons (pv 5) pa_nil)))))) (pa_cons (pe_tup (pa_cons (pv 7) (pa_cons (pv 9) (pa_cons (pv 3) (pa_cons (pv 4) (pa_cons (pv 10) pa_nil)))))) pa_nil)))))))))) (pss_one (ps_if (pt_cmpR (op_eqDK K hu64) (pe_ix (ix_seqK K) (pv 0) pe_int (fun _ _ => rfl)) pe_str (nomark _)) (pss_one (ps_for PassesOwn.never rfl (pi_range2 rfl T.m_range (pa_cons (pv 2) (pa_cons (pe_op (op_addK K) (pv 3) pe_int) pa_nil))) (pg_name (i := 9) sc_law_splits.nd rfl (Or.inr rfl)) (pss_one (ps_set (i := 8) sc_law_splits.nd rfl (Or.inl rfl) (pe_op (op_addK K) (pv 8) (pe_lc (own := [("h", 10)]) rfl sc_law_splits.nd (pi_range2 rfl T.m_range (pa_cons (pv 2) (pa_cons (pe_op (op_addK K) (pv 9) pe_int) pa_nil))) (blkOk_by (own := [("h", 10)]) (N := N_law_splits) (sc := defScope s_law_splits) (by decide +kernel)) (fun _ _ _ _ _ => pg_name (i := 10) sc_law_splits.nd rfl (Or.inl rfl)) (fun _ _ _ _ _ => pts_nil) (fun _ _ _ _ _ => (pe_tup (pa_cons (pe_tup (pa_cons (pv 6) (pa_cons (pv 9) (pa_cons (pv 3) (pa_cons (pv 4) (pa_cons (pv 5) pa_nil)))))) (pa_cons (pe_tup (pa_cons (pv 7) (pa_cons (pv 2) (pa_cons (pv 10) (pa_cons (pv 10) (pa_cons (pv 9) pa_nil)))))) pa_nil)))))))))) (pss_one (ps_for PassesOwn.never rfl (pi_range2 rfl T.m_range (pa_cons (pv 4) (pa_cons (pe_op (op_addK K) (pv 5) pe_int) pa_nil))) (pg_name (i := 9) sc_law_splits.nd rfl (Or.inr rfl)) (pss_one (ps_set (i := 8) sc_law_splits.nd rfl (Or.inl rfl) (pe_op (op_addK K) (pv 8) (pe_lc (own := [("h", 10)]) rfl sc_law_splits.nd (pi_range2 rfl T.m_range (pa_cons (pv 9) (pa_cons (pe_op (op_addK K) (pv 5) pe_int) pa_nil))) (blkOk_by (own := [("h", 10)]) (N := N_law_splits) (sc := defScope s_law_splits) (by decide +kernel)) (fun _ _ _ _ _ => pg_name (i := 10) sc_law_splits.nd rfl (Or.inl rfl)) (fun _ _ _ _ _ => pts_nil) (fun _ _ _ _ _ => (pe_tup (pa_cons (pe_tup (pa_cons (pv 6) (pa_cons (pv 2) (pa_cons (pv 3) (pa_cons (pv 4) (pa_cons (pv 9) pa_nil)))))) (pa_cons (pe_tup (pa_cons (pv 7) (pa_cons (pv 9) (pa_cons (pv 10) (pa_cons (pv 10) (pa_cons (pv 5) pa_nil)))))) pa_nil)))))))))))))
      (pss_one (ps_ret (pv 8))))))), ?_⟩
    have a : At Fm.pure B H B H := At.start (Ok.any ex)
    refine qv_unp4 a (ed_var rfl hu) fun B1 H1 e1 a1 => ?_
    refine qv_unp2 (i := o) (j := ot) a1 (ed_is (ed_slT (K := K) (ed_var rfl (hv.up e1)) (eo_some (K := K) ed_int) eo_none) (by rw [cut2])) fun B2 H2 e2 a2 => ?_
    refine qv_asg (P := DD K (.list [])) a2 (ed_lst (K := K) eds_nil) fun v3 B3 H3 e3 a3 h3 => ?_
    have e13 := (e1.trans e2).trans e3
    have hwE : ∀ B2 (σ : L2.St) (x : Str), Ex B B2 → x.length ≤ sizeLine → SeqAt.shaped (.str x) = true → σ[0]? = some (some v) → ETt Fm.pure (tTest (tOp (rEqD K) (tOp (rIx K) (tVar 0) (tC (.int 1))) (tC (.str x)))) σ B2 (how == x) := fun B2 σ x e2 hx hs hσ => et_is (et_cmp (ed_op (ed_op (ed_var hσ (hv.up e2)) ed_int (rd_ixT (atI_nat (j := 1) rfl))) (ed_str hx) (rd_eqD hsh hs))) (eqv_str _ _)
    refine ⟨fun σ' H' => ∃ B' vf o9 o10, σ' = [some v, some u, some (.int i), some (.int j), some (.int k), some (.int l), some (.int o), some (.int ot), some vf, o9, o10] ∧ At Fm.pure B H B' H' ∧ Dd K B' vf (.list ((splitsM how o ot i j k l).map pairKD)), ?_, ?_⟩
    · refine sv_if (b := how == ("wrap" : Str)) a3 (hwE B3 _ _ e13 (by decide) (by decide +kernel) rfl) (fun hb B4' H4' e4' a4' => ?_) (fun hb B4' H4' e4' a4' => ?_)
      · have e14 := e13.trans e4'
        refine sd_forR2 (lo := i) (n := j + 1) a4' (eds_cons (ed_var rfl (.int _)) (eds_cons (ed_op (ed_var rfl (.int _)) ed_int rd_add) eds_nil)) (by omega) (fun c σ' B' => Ex B B' ∧ ∃ o9 o10 vf, σ' = [some v, some u, some (.int i), some (.int j), some (.int k), some (.int l), some (.int o), some (.int ot), some vf, o9, o10] ∧ Dd K B' vf (.list ((accR (rowW o ot i j k l) c).map pairKD)))
          (fun B4 e4 => ⟨e14.trans e4, none, none, v3, rfl, h3.up (e4'.trans e4)⟩) (fun Bb c σ' B4 H4 e0 hc e4 a4 hi => ?_) (fun σ' B4 H4 e4 a4 hi => ?_)
        · obtain ⟨eB, o9, o10, vf, rfl, hf⟩ := hi
          have la : (accR (rowW o ot i j k l) c).length ≤ 20000 := Nat.le_trans (acc_len (m := 101) c fun d hd => by
            unfold rowW
            rw [List.length_map, List.length_range]
            omega) (Nat.le_trans (Nat.mul_le_mul_right 101 (show c ≤ 101 by omega)) (by decide))
          have lr : (rowW o ot i j k l c).length ≤ 101 := by
            unfold rowW
            rw [List.length_map, List.length_range]
            omega
          refine sv_asg (P := DD K (.list ((accR (rowW o ot i j k l) c).map pairKD ++ (rowW o ot i j k l c).map pairKD))) a4 (ed_op (ed_var rfl hf) (ed_is (ed_lcR2 (lo := k) (n := l + 1) (fun _ => true) (fun d => pairKD ([o, i, i + (c : Int), k + (d : Int), l], [ot, i + (c : Int), j, k, k + (d : Int)])) (eds_cons (ed_var rfl (.int _)) (eds_cons (ed_op (ed_var rfl (.int _)) ed_int rd_add) eds_nil)) (by omega) (fun _ => rfl) (fun d B5 _ _ => et_yes) (fun d B5 hd _ e5 =>
            ed_tup (ds := [cellD ([o, i, i + (c : Int), k + (d : Int), l]), cellD ([ot, i + (c : Int), j, k, k + (d : Int)])]) (eds_cons (ed_tup (ds := [.int (o), .int (i), .int (i + (c : Int)), .int (k + (d : Int)), .int (l)]) (eds_cons (ed_var rfl (.int _)) (eds_cons (ed_var rfl (.int _)) (eds_cons (ed_var rfl (.int _)) (eds_cons (ed_var rfl (.int _)) (eds_cons (ed_var rfl (.int _)) eds_nil)))))) (eds_cons (ed_tup (ds := [.int (ot), .int (i + (c : Int)), .int (j), .int (k), .int (k + (d : Int))]) (eds_cons (ed_var rfl (.int _)) (eds_cons (ed_var rfl (.int _)) (eds_cons (ed_var rfl (.int _)) (eds_cons (ed_var rfl (.int _)) (eds_cons (ed_var rfl (.int _)) eds_nil)))))) eds_nil)))) (by
              rw [map_all]
              unfold rowW
              rw [List.map_map]
              rfl)) (rd_addL (by rw [List.length_map, List.length_map]; omega))) fun v5 B5 H5 e5 a5 h5 => ?_
          refine ⟨B5, e4.trans e5, a5, eB.trans e5, some (.int (i + (c : Int))), o10, v5, rfl, ?_⟩
          rw [accR_succ, List.map_append]
          exact h5
        · obtain ⟨eB, o9, o10, vf, rfl, hf⟩ := hi
          exact ⟨B4, vf, o9, o10, rfl, a4, by unfold splitsM; rw [if_pos hb]; exact hf⟩
      · have nb : ¬ (how == ("wrap" : Str)) = true := by rw [hb]; decide
        refine sv_if (b := how == ("ahead" : Str)) a4' (hwE B4' _ _ (e13.trans e4') (by decide) (by decide +kernel) rfl) (fun hb2 B5' H5' e5' a5' => ?_) (fun hb2 B5' H5' e5' a5' => ?_)
        · have e15 := (e13.trans e4').trans e5'
          have e45 := e4'.trans e5'
          refine sd_forR2 (lo := i) (n := j + 1) a5' (eds_cons (ed_var rfl (.int _)) (eds_cons (ed_op (ed_var rfl (.int _)) ed_int rd_add) eds_nil)) (by omega) (fun c σ' B' => Ex B B' ∧ ∃ o9 o10 vf, σ' = [some v, some u, some (.int i), some (.int j), some (.int k), some (.int l), some (.int o), some (.int ot), some vf, o9, o10] ∧ Dd K B' vf (.list ((accR (rowA o ot i j k l) c).map pairKD)))
            (fun B4 e4 => ⟨e15.trans e4, none, none, v3, rfl, h3.up (e45.trans e4)⟩) (fun Bb c σ' B4 H4 e0 hc e4 a4 hi => ?_) (fun σ' B4 H4 e4 a4 hi => ?_)
          · obtain ⟨eB, o9, o10, vf, rfl, hf⟩ := hi
            have la : (accR (rowA o ot i j k l) c).length ≤ 20000 := Nat.le_trans (acc_len (m := 101) c fun d hd => by
              unfold rowA
              rw [List.length_map, List.length_range]
              omega) (Nat.le_trans (Nat.mul_le_mul_right 101 (show c ≤ 101 by omega)) (by decide))
            have lr : (rowA o ot i j k l c).length ≤ 101 := by
              unfold rowA
              rw [List.length_map, List.length_range]
              omega
            refine sv_asg (P := DD K (.list ((accR (rowA o ot i j k l) c).map pairKD ++ (rowA o ot i j k l c).map pairKD))) a4 (ed_op (ed_var rfl hf) (ed_is (ed_lcR2 (lo := i) (n := (i + (c : Int)) + 1) (fun _ => true) (fun d => pairKD ([o, i + (c : Int), j, k, l], [ot, i, i + (d : Int), i + (d : Int), i + (c : Int)])) (eds_cons (ed_var rfl (.int _)) (eds_cons (ed_op (ed_var rfl (.int _)) ed_int rd_add) eds_nil)) (by omega) (fun _ => rfl) (fun d B5 _ _ => et_yes) (fun d B5 hd _ e5 =>
              ed_tup (ds := [cellD ([o, i + (c : Int), j, k, l]), cellD ([ot, i, i + (d : Int), i + (d : Int), i + (c : Int)])]) (eds_cons (ed_tup (ds := [.int (o), .int (i + (c : Int)), .int (j), .int (k), .int (l)]) (eds_cons (ed_var rfl (.int _)) (eds_cons (ed_var rfl (.int _)) (eds_cons (ed_var rfl (.int _)) (eds_cons (ed_var rfl (.int _)) (eds_cons (ed_var rfl (.int _)) eds_nil)))))) (eds_cons (ed_tup (ds := [.int (ot), .int (i), .int (i + (d : Int)), .int (i + (d : Int)), .int (i + (c : Int))]) (eds_cons (ed_var rfl (.int _)) (eds_cons (ed_var rfl (.int _)) (eds_cons (ed_var rfl (.int _)) (eds_cons (ed_var rfl (.int _)) (eds_cons (ed_var rfl (.int _)) eds_nil)))))) eds_nil)))) (by
                rw [map_all]
                unfold rowA
                rw [List.map_map]
                rfl)) (rd_addL (by rw [List.length_map, List.length_map]; omega))) fun v5 B5 H5 e5 a5 h5 => ?_
            refine ⟨B5, e4.trans e5, a5, eB.trans e5, some (.int (i + (c : Int))), o10, v5, rfl, ?_⟩
            rw [accR_succ, List.map_append]
            exact h5
          · obtain ⟨eB, o9, o10, vf, rfl, hf⟩ := hi
            exact ⟨B4, vf, o9, o10, rfl, a4, by unfold splitsM; rw [if_neg nb, if_pos hb2]; exact hf⟩
        · have e15 := (e13.trans e4').trans e5'
          have e45 := e4'.trans e5'
          refine sd_forR2 (lo := k) (n := l + 1) a5' (eds_cons (ed_var rfl (.int _)) (eds_cons (ed_op (ed_var rfl (.int _)) ed_int rd_add) eds_nil)) (by omega) (fun c σ' B' => Ex B B' ∧ ∃ o9 o10 vf, σ' = [some v, some u, some (.int i), some (.int j), some (.int k), some (.int l), some (.int o), some (.int ot), some vf, o9, o10] ∧ Dd K B' vf (.list ((accR (rowB o ot i j k l) c).map pairKD)))
            (fun B4 e4 => ⟨e15.trans e4, none, none, v3, rfl, h3.up (e45.trans e4)⟩) (fun Bb c σ' B4 H4 e0 hc e4 a4 hi => ?_) (fun σ' B4 H4 e4 a4 hi => ?_)
          · obtain ⟨eB, o9, o10, vf, rfl, hf⟩ := hi
            have la : (accR (rowB o ot i j k l) c).length ≤ 20000 := Nat.le_trans (acc_len (m := 101) c fun d hd => by
              unfold rowB
              rw [List.length_map, List.length_range]
              omega) (Nat.le_trans (Nat.mul_le_mul_right 101 (show c ≤ 101 by omega)) (by decide))
            have lr : (rowB o ot i j k l c).length ≤ 101 := by
              unfold rowB
              rw [List.length_map, List.length_range]
              omega
            refine sv_asg (P := DD K (.list ((accR (rowB o ot i j k l) c).map pairKD ++ (rowB o ot i j k l c).map pairKD))) a4 (ed_op (ed_var rfl hf) (ed_is (ed_lcR2 (lo := (k + (c : Int))) (n := l + 1) (fun _ => true) (fun d => pairKD ([o, i, j, k, k + (c : Int)], [ot, k + (c : Int), k + (c : Int) + (d : Int), k + (c : Int) + (d : Int), l])) (eds_cons (ed_var rfl (.int _)) (eds_cons (ed_op (ed_var rfl (.int _)) ed_int rd_add) eds_nil)) (by omega) (fun _ => rfl) (fun d B5 _ _ => et_yes) (fun d B5 hd _ e5 =>
              ed_tup (ds := [cellD ([o, i, j, k, k + (c : Int)]), cellD ([ot, k + (c : Int), k + (c : Int) + (d : Int), k + (c : Int) + (d : Int), l])]) (eds_cons (ed_tup (ds := [.int (o), .int (i), .int (j), .int (k), .int (k + (c : Int))]) (eds_cons (ed_var rfl (.int _)) (eds_cons (ed_var rfl (.int _)) (eds_cons (ed_var rfl (.int _)) (eds_cons (ed_var rfl (.int _)) (eds_cons (ed_var rfl (.int _)) eds_nil)))))) (eds_cons (ed_tup (ds := [.int (ot), .int (k + (c : Int)), .int (k + (c : Int) + (d : Int)), .int (k + (c : Int) + (d : Int)), .int (l)]) (eds_cons (ed_var rfl (.int _)) (eds_cons (ed_var rfl (.int _)) (eds_cons (ed_var rfl (.int _)) (eds_cons (ed_var rfl (.int _)) (eds_cons (ed_var rfl (.int _)) eds_nil)))))) eds_nil)))) (by
                rw [map_all]
                unfold rowB
                rw [List.map_map]
                rfl)) (rd_addL (by rw [List.length_map, List.length_map]; omega))) fun v5 B5 H5 e5 a5 h5 => ?_
            refine ⟨B5, e4.trans e5, a5, eB.trans e5, some (.int (k + (c : Int))), o10, v5, rfl, ?_⟩
            rw [accR_succ, List.map_append]
            exact h5
          · obtain ⟨eB, o9, o10, vf, rfl, hf⟩ := hi
            exact ⟨B4, vf, o9, o10, rfl, a4, by unfold splitsM; rw [if_neg nb, if_neg (by rw [hb2]; decide)]; exact hf⟩
    · rintro σ' H' ⟨B', vf, o9, o10, rfl, a9, hf⟩
      exact sv_ret (P := DD K (.list ((splitsM how o ot i j k l).map pairKD))) a9 (ed_var rfl hf) fun v5 B5 H5 e5 a5 h5 => q _ B5 H5 a5.st h5
end
end K12

namespace K12
open PySem PySem.Spec PyProof.Rows L2 Evl Ex Dx StX
open PySem.PyData (strOk)
section
variable {P : Program} {w : World} {K : PySem.W.Frag} {mg : Str → Option Value} {base : Heap} {f : Addr} {fd : FuncData}


/-! ### _law_ways -/
def wayL (ts : List Str) (s : Str) (a b : Int) (c : Bool) : Int := if a < (ts.length : Nat) then (if (decide (b = a + 1) && (c && (ts.getD a.toNat "" == s))) = true then 1 else 0) else 0
def wayR (ts : List Str) (s : Str) (a b : Int) (c : Bool) : Int := if a < (ts.length : Nat) then (if (c && (decide (b = a + 1) && (ts.getD a.toNat "" == s))) = true then 1 else 0) else 0
def prodS (m : Mp) (p : List Int × List Int) : Int := if (lkI m p.1).isSome = true then atG m p.1 * atG m p.2 else 0
def sumS (m : Mp) (ps : List (List Int × List Int)) : Int := (ps.map (prodS m)).sum
theorem sumS_succ {m : Mp} {ps : List (List Int × List Int)} {n : Nat} {p : List Int × List Int} (h : ps[n]? = some p) : sumS m (ps.take (n + 1)) = sumS m (ps.take n) + prodS m p := by
  unfold sumS
  rw [take_snoc h, List.map_append, List.sum_append]
  simp
theorem splits_len {how : Str} {o ot i j k l : Int} {p : List Int × List Int} (h : p ∈ splitsM how o ot i j k l) : p.1.length = 5 ∧ p.2.length = 5 := by
  unfold splitsM at h
  have go : ∀ {f : Nat → List (List Int × List Int)} {n : Nat}, (∀ c, ∀ x ∈ f c, x.1.length = 5 ∧ x.2.length = 5) → p ∈ accR f n → p.1.length = 5 ∧ p.2.length = 5 := fun hf hp => by
    obtain ⟨c, _, hc⟩ := List.mem_flatMap.mp hp
    exact hf c _ hc
  split at h
  · exact go (fun c x hx => by obtain ⟨d, _, rfl⟩ := List.mem_map.mp hx; exact ⟨rfl, rfl⟩) h
  · split at h
    · exact go (fun c x hx => by obtain ⟨d, _, rfl⟩ := List.mem_map.mp hx; exact ⟨rfl, rfl⟩) h
    · exact go (fun c x hx => by obtain ⟨d, _, rfl⟩ := List.mem_map.mp hx; exact ⟨rfl, rfl⟩) h
def waysM (ts : List Str) (m : Mp) (r : PyData) (i j k l : Int) : Int := match r with
  | .tuple [_, .str how, .str s] => if (how == ("left" : Str)) = true then wayL ts s i j (decide (k = l)) else wayR ts s k l (decide (i = j))
  | .tuple [_, .str how, .int o] => oneM m how o i j k l
  | .tuple [_, .str how, .int o, .int ot] => sumS m (splitsM how o ot i j k l)
  | _ => 0
/-- values below 2 ^ b -/
def Big (b : Nat) (m : Mp) : Prop := ∀ k, (atG m k).natAbs < 2 ^ b
/-- rule, cell, text, found -/
def spLW (K : PySem.W.Frag) : Sp := fun vs H Q _ => ∃ (B : Hp) (v u t y : V) (r : PyData) (ts : List Str) (i j k l : Int) (m : Mp) (b : Nat), vs = [v, u, t, y] ∧ Ex B H ∧ RuleIs r ∧ (∀ x ∈ ts, SeqAt.shaped (.str x) = true) ∧ ts.length ≤ 100 ∧ Big b m ∧ (0 < b ∧ b ≤ 500000) ∧ Dd K B v r ∧ Dd K B t (.tuple (ts.map .str)) ∧ Dd K B u (.tuple [.int i, .int j, .int k, .int l]) ∧ DicV m y B ∧
  (0 ≤ i ∧ i ≤ j ∧ j ≤ k ∧ k ≤ l ∧ l ≤ (ts.length : Nat)) ∧ ∀ B' H', Step (fun _ => False) B H B' H' → Q (.int (waysM ts m r i j k l)) H'
theorem lrW : ∀ x ∈ WSH, (x == ("left" : Str)) = true ∨ ((x == ("left" : Str)) = false ∧ (x == ("right" : Str)) = true) := by decide +kernel
theorem lrO : ∀ x ∈ OSH, (x == ("left" : Str)) = false ∧ (x == ("right" : Str)) = false ∧ ((x == ("same" : Str)) = true ∨ ((x == ("same" : Str)) = false ∧ ((x == ("first" : Str)) = true ∨ ((x == ("first" : Str)) = false ∧ (x == ("last" : Str)) = true)))) := by decide +kernel
theorem lrT : ∀ x ∈ TSH, (x == ("left" : Str)) = false ∧ (x == ("right" : Str)) = false ∧ (x == ("same" : Str)) = false ∧ (x == ("first" : Str)) = false ∧ (x == ("last" : Str)) = false := by decide +kernel
theorem mul_big {m : Mp} {b : Nat} (h : Big b m) (hb : 0 < b ∧ b ≤ 500000) (k l : List Int) : CMulW (atG m k) (atG m l) := wide_mul (h k) (h l) hb.1 hb.1 (by omega)
theorem rd_mulW {F : Fm} {B : Hp} {i j : Int} (h : CMulW i j) : RD2 F K (rI CMulW fun i j => .int (i * j)) B (.int i) (.int j) (.int (i * j)) := rd_I (C := CMulW) (g := fun i j => i * j) h
theorem lk_atG {m : Mp} {k : List Int} (h : (lkI m k).isSome = true) : lkI m k = some (atG m k) := by
  unfold atG
  cases hh : lkI m k with
  | none => rw [hh] at h; cases h
  | some x => rfl

abbrev s_law_ways : Stmt := topS 55
abbrev N_law_ways : List Str := ["rule", "cell", "text", "found", "i", "j", "k", "l", "how", "total", "first", "second", "g"]
theorem sc_law_ways : FnScope N_law_ways ["rule", "cell", "text", "found"] (defScope s_law_ways) := ⟨rfl, rfl, rfl, by decide +kernel, rfl, by decide +kernel, by decide +kernel⟩
theorem ok_law_ways (F : Fun K "_law_ways" "_law_ways" s_law_ways f fd) (T : TC K mg) (m_sum : mg "sum" = none) (hK : noInts K = true) (C_law_splits : Callee P w K mg base "_law_splits" 1 ["rule", "cell"] (spF K preSpl fSpl)) : FnOk P w K mg base CX0 2 f fd ["rule", "cell", "text", "found"] (spLW K) := by
  refine F.ok sc_law_ways (fun vs H Q E h => ?_) (fun cdv A outer s H vs Q E hr h => ?_)
  · obtain ⟨B, v, u, t, y, r, ts, i, j, k, l, m, b, rfl, _⟩ := h
    rfl
  · obtain ⟨B, v, u, t, y, r, ts, i, j, k, l, m, b, rfl, ex, hri, hst, hlen, hbig, hb5, hv, ht, hu, hy, ⟨b0, b1, b2, b3, b4⟩, q⟩ := h
    have hu64 : (A.deeper (envOfC "_law_ways" (defScope s_law_ways) s.heap.objs.size f cdv)).units + 64 < cLine := hr.units
    have hu1 : (A.deeper (envOfC "_law_ways" (defScope s_law_ways) s.heap.objs.size f cdv)).units + 1 < cLine := by omega
    refine ⟨_, (pss_cons (ps_asg (pv 1) (pg_tup (by rfl) (pgs_cons (pg_name (i := 4) sc_law_ways.nd rfl (Or.inr rfl)) (pgs_cons (pg_name (i := 5) sc_law_ways.nd rfl (Or.inr rfl)) (pgs_cons (pg_name (i := 6) sc_law_ways.nd rfl (Or.inr rfl)) (pgs_cons (pg_name (i := 7) sc_law_ways.nd rfl (Or.inr rfl)) pgs_nil))))))
      (pss_cons (ps_set (i := 8) sc_law_ways.nd rfl (Or.inl rfl) (pe_ix (ix_seqK K) (pv 0) pe_int (fun _ _ => rfl)))
      (pss_cons (ps_if (pt_cmpR (op_eqDK K hu64) (pv 8) pe_str (nomark _)) (pss_one (ps_ret (pe_ifExp (pt_cmpR op_lt (pv 4) (pe_callB (call_lenK K) (by rfl) T.m_len bt_len (pa_cons (pv 2) pa_nil)) (nomark _)) (pe_callTy call_int1 (by rfl) T.m_int bt_int (pa_cons (pe_and (pe_cmpR (op_eqDK K hu64) (pv 5) (pe_op (op_addK K) (pv 4) pe_int) (nomark _)) (pe_and (pe_cmpR (op_eqDK K hu64) (pv 6) (pv 7) (nomark _)) (pe_one (pe_cmpR (op_eqDK K hu64) (pe_ix (ix_seqK K) (pv 2) (pv 4) (fun _ _ => rfl)) (pe_ix (ix_seqK K) (pv 0) pe_int (fun _ _ => rfl)) (nomark _))))) pa_nil)) pe_int))) pss_nil)
      (pss_cons (ps_if (pt_cmpR (op_eqDK K hu64) (pv 8) pe_str (nomark _)) (pss_one (ps_ret (pe_ifExp (pt_cmpR op_lt (pv 6) (pe_callB (call_lenK K) (by rfl) T.m_len bt_len (pa_cons (pv 2) pa_nil)) (nomark _)) (pe_callTy call_int1 (by rfl) T.m_int bt_int (pa_cons (pe_and (pe_cmpR (op_eqDK K hu64) (pv 4) (pv 5) (nomark _)) (pe_and (pe_cmpR (op_eqDK K hu64) (pv 7) (pe_op (op_addK K) (pv 6) pe_int) (nomark _)) (pe_one (pe_cmpR (op_eqDK K hu64) (pe_ix (ix_seqK K) (pv 2) (pv 6) (fun _ _ => rfl)) (pe_ix (ix_seqK K) (pv 0) pe_int (fun _ _ => rfl)) (nomark _))))) pa_nil)) pe_int))) pss_nil)
      (pss_cons (ps_if (pt_cmpR (op_eqDK K hu64) (pv 8) pe_str (nomark _)) (pss_one (ps_ret (pe_dget2 hu1 (pv 3) (pe_op (op_addK K) (pe_tup (pa_cons (pe_ix (ix_seqK K) (pv 0) pe_int (fun _ _ => rfl)) pa_nil)) (pv 1)) pe_int ⟨rfl, rfl, rfl, rfl⟩))) pss_nil)
      (pss_cons (ps_if (pt_cmpR (op_eqDK K hu64) (pv 8) pe_str (nomark _)) (pss_one (ps_ret (pe_ifExp (pt_cmpR (op_eqDK K hu64) (pv 6) (pv 7) (nomark _)) (pe_callB (cr_sumK K rfl) (by rfl) m_sum bt_sum (pa_cons (pe_lc (own := [("g", 12)]) rfl sc_law_ways.nd (pi_range2 rfl T.m_range (pa_cons (pv 4) (pa_cons (pe_op (op_addK K) (pv 5) pe_int) pa_nil))) (blkOk_by (own := [("g", 12)]) (N := N_law_ways) (sc := defScope s_law_ways) (by decide +kernel)) (fun _ _ _ _ _ => pg_name (i := 12) sc_law_ways.nd rfl (Or.inl rfl)) (fun _ _ _ _ _ => pts_nil) (fun _ _ _ _ _ => (pe_dget2 hu1 (pv 3) (pe_tup (pa_cons (pe_ix (ix_seqK K) (pv 0) pe_int (fun _ _ => rfl)) (pa_cons (pv 4) (pa_cons (pv 12) (pa_cons (pv 12) (pa_cons (pv 5) pa_nil)))))) pe_int ⟨rfl, rfl, rfl, rfl⟩))) pa_nil)) pe_int))) pss_nil)
      (pss_cons (ps_if (pt_cmpR (op_eqDK K hu64) (pv 8) pe_str (nomark _)) (pss_one (ps_ret (pe_ifExp (pt_cmpR (op_eqDK K hu64) (pv 4) (pv 5) (nomark _)) (pe_callB (cr_sumK K rfl) (by rfl) m_sum bt_sum (pa_cons (pe_lc (own := [("g", 12)]) rfl sc_law_ways.nd (pi_range2 rfl T.m_range (pa_cons (pv 6) (pa_cons (pe_op (op_addK K) (pv 7) pe_int) pa_nil))) (blkOk_by (own := [("g", 12)]) (N := N_law_ways) (sc := defScope s_law_ways) (by decide +kernel)) (fun _ _ _ _ _ => pg_name (i := 12) sc_law_ways.nd rfl (Or.inl rfl)) (fun _ _ _ _ _ => pts_nil) (fun _ _ _ _ _ => (pe_dget2 hu1 (pv 3) (pe_tup (pa_cons (pe_ix (ix_seqK K) (pv 0) pe_int (fun _ _ => rfl)) (pa_cons (pv 6) (pa_cons (pv 12) (pa_cons (pv 12) (pa_cons (pv 7) pa_nil)))))) pe_int ⟨rfl, rfl, rfl, rfl⟩))) pa_nil)) pe_int))) pss_nil)
      (pss_cons (ps_set (i := 9) sc_law_ways.nd rfl (Or.inl rfl) pe_int)
      (pss_cons (ps_for PassesOwn.never rfl (pi_seqK K (pe_callC C_law_splits (hr.mono (by decide)) rfl pass0 (pa_cons (pv 0) (pa_cons (pv 1) pa_nil)))) (pg_tup (by rfl) (pgs_cons (pg_name (i := 10) sc_law_ways.nd rfl (Or.inl rfl)) (pgs_cons (pg_name (i := 11) sc_law_ways.nd rfl (Or.inl rfl)) pgs_nil))) (pss_one (ps_if (pt_cmp (pc_din hu1 (pv 10) (pv 3))) (pss_one (ps_set (i := 9) sc_law_ways.nd rfl (Or.inl rfl) (pe_op (op_addK K) (pv 9) (pe_op op_mulW (pe_dget hu1 (pv 3) (pv 10) (fun _ _ => rfl)) (pe_dget2 hu1 (pv 3) (pv 11) pe_int ⟨rfl, rfl, rfl, rfl⟩))))) pss_nil)))
      (pss_one (ps_ret (pv 9)))))))))))), ?_⟩
    have a : At Fm.pure B H B H := At.start (Ok.any ex)
    have fin : ∀ (n : Int) v1 B1 H1, At Fm.pure B H B1 H1 → DD K (.int n) v1 B1 → n = waysM ts m r i j k l → Q v1 H1 := fun n v1 B1 H1 a1 h1 en => by
      obtain rfl := dd_int h1
      rw [en]
      exact q _ _ a1.st
    refine qv_unp4 a (ed_var rfl hu) fun B1 H1 e1 a1 => ?_
    have eqI : ∀ B2 (σ : L2.St) (p q : Nat) (x y : Int), σ[p]? = some (some (.int x)) → σ[q]? = some (some (.int y)) → ETt Fm.pure (tTest (tOp (rEqD K) (tVar p) (tVar q))) σ B2 (decide (x = y)) := fun B2 σ p q x y hp hq => et_is (et_cmp (ed_op (ed_var hp (.int x)) (ed_var hq (.int y)) (rd_eqD rfl rfl))) (by rw [eqv_int, Bool.eq_iff_iff, beq_iff_eq, decide_eq_true_eq])
    have eqD : ∀ B2 (σ : L2.St) (p q : Nat) (x y : Int), σ[p]? = some (some (.int x)) → σ[q]? = some (some (.int y)) → ED Fm.pure K (tOp (rEqD K) (tVar p) (tVar q)) σ B2 (.bool (decide (x = y))) := fun B2 σ p q x y hp hq => ed_is (ed_op (ed_var hp (.int x)) (ed_var hq (.int y)) (rd_eqD rfl rfl)) (by rw [eqv_int]; rfl)
    have eqP : ∀ B2 (σ : L2.St) (p q : Nat) (x y : Int), σ[p]? = some (some (.int x)) → σ[q]? = some (some (.int y)) → ED Fm.pure K (tOp (rEqD K) (tVar p) (tOp (rAddA K) (tVar q) (tC (.int 1)))) σ B2 (.bool (decide (x = y + 1))) := fun B2 σ p q x y hp hq => ed_is (ed_op (ed_var hp (.int x)) (ed_op (ed_var hq (.int y)) ed_int rd_add) (rd_eqD rfl rfl)) (by rw [eqv_int]; rfl)
    have lenL : ∀ B2 (σ : L2.St) (p : Nat) (x : Int), Ex B B2 → σ[p]? = some (some (.int x)) → σ[2]? = some (some t) → ETt Fm.pure (tTest (tOp (rI0 fun i j => .bl (decide (i < j))) (tVar p) (tCB (rLnK K) (tCons (tVar 2) tNil)))) σ B2 (decide (x < (ts.length : Nat))) := fun B2 σ p x e2 hp h2 => et_is (et_cmp (K := K) (ed_op (ed_var hp (.int x)) (ev_cb (eds_cons (ed_var h2 (ht.up e2)) eds_nil) (rc_len rfl)) rd_lt)) (by show decide (x < (((ts.map PyData.str).length : Nat) : Int)) = _; rw [List.length_map])
    have dicE : ∀ B2 (σ : L2.St), Ex B B2 → σ[3]? = some (some y) → EV Fm.pure (tVar 3) σ B2 (DicV m) := fun B2 σ e2 h3 => Dx.ev_var (P := DicV m) h3 upc_dic (upc_dic _ _ _ e2 hy)
    rcases hri with ⟨r0, how, st, rfl, hw, hss⟩ | ⟨r0, how, o, rfl, hw⟩ | ⟨r0, how, o, ot, rfl, hw⟩
    · have hm := inS_mem hw
      have hsh := shWOT how (List.mem_append_left _ hm)
      refine qv_asg (P := DD K (.str how)) a1 (ed_op (ed_var rfl (hv.up e1)) ed_int (rd_ixT (atI_nat (j := 1) rfl))) fun vh B2 H2 e2 a2 hh => ?_
      obtain ⟨rfl, hhl⟩ := dd_str hh
      have e12 := e1.trans e2
      have hwE : ∀ B2 (σ : L2.St) (x : Str), x.length ≤ sizeLine → SeqAt.shaped (.str x) = true → σ[8]? = some (some (.str how)) → ETt Fm.pure (tTest (tOp (rEqD K) (tVar 8) (tC (.str x)))) σ B2 (how == x) := fun B2 σ x hx hs hσ => et_is (et_cmp (ed_op (ed_var hσ (.str how hhl)) (ed_str hx) (rd_eqD hsh hs))) (eqv_str _ _)
      have wordE : ∀ B2 (σ : L2.St) (p : Nat) (x : Int), Ex B B2 → 0 ≤ x → x < (ts.length : Nat) → σ[p]? = some (some (.int x)) → σ[2]? = some (some t) → σ[0]? = some (some v) → ED Fm.pure K (tOp (rEqD K) (tOp (rIx K) (tVar 2) (tVar p)) (tOp (rIx K) (tVar 0) (tC (.int 2)))) σ B2 (.bool (ts.getD x.toNat "" == st)) := fun B2 σ p x e2 x0 x1 hp h2 h0 => by
        obtain ⟨n, rfl⟩ := Int.eq_ofNat_of_zero_le x0
        have hn : n < ts.length := by omega
        have hg : ts[n]? = some (ts.getD n "") := by rw [List.getD_eq_getElem?_getD, List.getElem?_eq_getElem hn]; rfl
        have hi : (ts.map PyData.str)[n]? = some (.str (ts.getD n "")) := by rw [List.getElem?_map, hg]; rfl
        exact ed_is (ed_op (ed_op (ed_var h2 (ht.up e2)) (ed_var hp (.int _)) (rd_ixT (atI_nat (j := n) hi))) (ed_op (ed_var h0 (hv.up e2)) ed_int (rd_ixT (atI_nat (j := 2) rfl))) (rd_eqD (hst _ (List.mem_of_getElem? hg)) hss)) (by rw [eqv_str]; rfl)
      have intB : ∀ {F : Fm} {σ : L2.St} {B : Hp} {te : TE} {c : Bool}, ED F K te σ B (.bool c) → ED F K (tCB (fun xs H Q => (∃ i, xs = [.int i] ∧ Q (.int i) H) ∨ ∃ k, xs = [.bl k] ∧ Q (.int (if k then 1 else 0)) H) (tCons te tNil)) σ B (.int (if c = true then 1 else 0)) := fun h => ev_cb (eds_cons h eds_nil) rc_intB
      rcases lrW how hm with hl | ⟨hl, hr2⟩
      · refine qv_when (b := true) a2 (et_is (hwE B2 _ _ (by decide) (by decide +kernel) rfl) hl) (fun _ B3 H3 e3 a3 => ?_) (fun h => nomatch h)
        have e13 := e12.trans e3
        refine sv_ret (P := DD K (.int (wayL ts st i j (decide (k = l))))) a3 (ev_if (b := decide (i < (ts.length : Nat))) (lenL _ _ 4 i e13 rfl rfl) (fun hb => ?_) (fun hb => ?_)) fun v1 B4 H4 e4 a4 h4 => fin _ _ _ _ a4 h4 (if_pos hl).symm
        · have hb' := of_decide_eq_true hb
          rw [show wayL ts st i j (decide (k = l)) = _ from if_pos hb']
          exact intB (ed_andV (eqP _ _ 5 4 j i rfl rfl) fun _ => ed_andV (eqD _ _ 6 7 k l rfl rfl) fun _ => wordE _ _ 4 i e13 b0 hb' rfl rfl rfl)
        · rw [show wayL ts st i j (decide (k = l)) = _ from if_neg (of_decide_eq_false hb)]
          exact ed_int
      · refine qv_when (b := false) a2 (et_is (hwE B2 _ _ (by decide) (by decide +kernel) rfl) hl) (fun h => nomatch h) (fun _ B3 H3 e3 a3 => ?_)
        refine qv_when (b := true) a3 (et_is (hwE B3 _ _ (by decide) (by decide +kernel) rfl) hr2) (fun _ B4 H4 e4 a4 => ?_) (fun h => nomatch h)
        have e14 := (e12.trans e3).trans e4
        refine sv_ret (P := DD K (.int (wayR ts st k l (decide (i = j))))) a4 (ev_if (b := decide (k < (ts.length : Nat))) (lenL _ _ 6 k e14 rfl rfl) (fun hb => ?_) (fun hb => ?_)) fun v1 B5 H5 e5 a5 h5 => fin _ _ _ _ a5 h5 (if_neg (by rw [hl]; decide)).symm
        · have hb' := of_decide_eq_true hb
          rw [show wayR ts st k l (decide (i = j)) = _ from if_pos hb']
          exact intB (ed_andV (eqD _ _ 4 5 i j rfl rfl) fun _ => ed_andV (eqP _ _ 7 6 l k rfl rfl) fun _ => wordE _ _ 6 k e14 (by omega) hb' rfl rfl rfl)
        · rw [show wayR ts st k l (decide (i = j)) = _ from if_neg (of_decide_eq_false hb)]
          exact ed_int
    · have hm := inS_mem hw
      have hsh := shWOT how (List.mem_append_right _ (List.mem_append_left _ hm))
      obtain ⟨n1, n2, hs⟩ := lrO how hm
      refine qv_asg (P := DD K (.str how)) a1 (ed_op (ed_var rfl (hv.up e1)) ed_int (rd_ixT (atI_nat (j := 1) rfl))) fun vh B2 H2 e2 a2 hh => ?_
      obtain ⟨rfl, hhl⟩ := dd_str hh
      have e12 := e1.trans e2
      have hwE : ∀ B2 (σ : L2.St) (x : Str), x.length ≤ sizeLine → SeqAt.shaped (.str x) = true → σ[8]? = some (some (.str how)) → ETt Fm.pure (tTest (tOp (rEqD K) (tVar 8) (tC (.str x)))) σ B2 (how == x) := fun B2 σ x hx hs hσ => et_is (et_cmp (ed_op (ed_var hσ (.str how hhl)) (ed_str hx) (rd_eqD hsh hs))) (eqv_str _ _)
      have o2 : ∀ B2 (σ : L2.St), Ex B B2 → σ[0]? = some (some v) → ED Fm.pure K (tOp (rIx K) (tVar 0) (tC (.int 2))) σ B2 (.int o) := fun B2 σ e2 hσ => ed_op (ed_var hσ (hv.up e2)) ed_int (rd_ixT (atI_nat (j := 2) rfl))
      have sumE : ∀ B2 (x z : Int) (p p2 : Nat), Ex B B2 → 0 ≤ x → z ≤ 1000 → x ≤ 1000 → 0 ≤ z → ∀ σ : L2.St, σ[0]? = some (some v) → σ[3]? = some (some y) → σ[p]? = some (some (.int x)) → σ[p2]? = some (some (.int z)) → (∀ c : V, ((wipe σ [12]).set 12 (some c))[0]? = some (some v) ∧ ((wipe σ [12]).set 12 (some c))[3]? = some (some y) ∧ ((wipe σ [12]).set 12 (some c))[p]? = some (some (.int x)) ∧ ((wipe σ [12]).set 12 (some c))[p2]? = some (some (.int z)) ∧ ((wipe σ [12]).set 12 (some c))[12]? = some (some c)) →
          (∀ c : V, wipe ((wipe σ [12]).set 12 (some c)) [12] = wipe σ [12]) →
          ED Fm.pure K (tCB (rSum K) (tCons (tLc (iRng2 (tCons (tVar p) (tCons (tOp (rAddA K) (tVar p2) (tC (.int 1))) tNil))) (gName 12) (fun _ H Q => Q true H) (tDGet2 (tVar 3) (tTup (tCons (tOp (rIx K) (tVar 0) (tC (.int 2))) (tCons (tVar p) (tCons (tVar 12) (tCons (tVar 12) (tCons (tVar p2) tNil)))))) (tC (.int 0))) [12]) tNil)) σ B2 (.int (textM m o x z)) := fun B2 x z p p2 e2 x0 z1 x1 z0 σ h0 h3 hp hp2 hs hw =>
        ed_is (ev_cb (eds_cons (ed_is (ed_lcR2 (lo := x) (n := z + 1) (fun _ => true) (fun c => .int (atG m [o, x, x + (c : Int), x + (c : Int), z])) (eds_cons (ed_var hp (.int x)) (eds_cons (ed_op (ed_var hp2 (.int z)) ed_int rd_add) eds_nil)) (by omega) hw (fun c B3 _ _ => et_yes) (fun c B3 hc _ e3 => by
          obtain ⟨g0, g3, gp, gp2, g12⟩ := hs (.int (x + (c : Int)))
          exact ed_dget2 (dicE _ _ (e2.trans e3) g3) (ev_keyT (K := K) (k := [o, x, x + (c : Int), x + (c : Int), z]) (eds_cons (o2 _ _ (e2.trans e3) g0) (eds_cons (ed_var gp (.int _)) (eds_cons (ed_var g12 (.int _)) (eds_cons (ed_var g12 (.int _)) (eds_cons (ed_var gp2 (.int _)) eds_nil)))))))) (by rw [mapi])) eds_nil) rc_sum) rfl
      refine qv_when (b := false) a2 (et_is (hwE B2 _ _ (by decide) (by decide +kernel) rfl) n1) (fun h => nomatch h) (fun _ B3 H3 e3 a3 => ?_)
      refine qv_when (b := false) a3 (et_is (hwE B3 _ _ (by decide) (by decide +kernel) rfl) n2) (fun h => nomatch h) (fun _ B4 H4 e4 a4 => ?_)
      have e14 := (e12.trans e3).trans e4
      have fin1 : ∀ (n : Int) v1 B1 H1, At Fm.pure B H B1 H1 → DD K (.int n) v1 B1 → n = oneM m how o i j k l → Q v1 H1 := fin
      rcases hs with hs | ⟨ns, hs⟩
      · refine qv_when (b := true) a4 (et_is (hwE B4 _ _ (by decide) (by decide +kernel) rfl) hs) (fun _ B5 H5 e5 a5 => ?_) (fun h => nomatch h)
        have e15 := e14.trans e5
        refine sv_ret (P := DD K (.int (atG m [o, i, j, k, l]))) a5 (ed_dget2 (dicE _ _ e15 rfl) (EV.imp (P := DD K (.tuple ([o, i, j, k, l].map .int))) (ed_op (ed_tup (eds_cons (o2 _ _ e15 rfl) eds_nil)) (ed_var rfl (hu.up e15)) (rd_addT (ds := [.int o]) (es := [.int i, .int j, .int k, .int l]) (Nat.le_of_ble_eq_true rfl))) fun w Bw _ g => key_of hK (k := [o, i, j, k, l]) (fun z => nomatch z) g)) fun v1 B6 H6 e6 a6 h6 => fin1 _ _ _ _ a6 h6 ?_
        unfold oneM
        rw [if_pos hs]
      · refine qv_when (b := false) a4 (et_is (hwE B4 _ _ (by decide) (by decide +kernel) rfl) ns) (fun h => nomatch h) (fun _ B5 H5 e5 a5 => ?_)
        have e15 := e14.trans e5
        rcases hs with hs | ⟨nf, hs⟩
        · refine qv_when (b := true) a5 (et_is (hwE B5 _ _ (by decide) (by decide +kernel) rfl) hs) (fun _ B6 H6 e6 a6 => ?_) (fun h => nomatch h)
          refine sv_ret (P := DD K (.int (if k = l then textM m o i j else 0))) a6 (ev_if (b := decide (k = l)) (eqI _ _ 6 7 k l rfl rfl) (fun hk => ?_) (fun hk => ?_)) fun v1 B7 H7 e7 a7 h7 => fin1 _ _ _ _ a7 h7 ?_
          · rw [if_pos (of_decide_eq_true hk)]
            exact sumE _ i j 4 5 (e15.trans e6) b0 (by omega) (by omega) (by omega) _ rfl rfl rfl rfl (fun c => ⟨rfl, rfl, rfl, rfl, rfl⟩) (fun c => rfl)
          · rw [if_neg (of_decide_eq_false hk)]
            exact ed_int
          · unfold oneM
            rw [if_neg (show ¬ (how == ("same" : Str)) = true by rw [ns]; decide), if_pos hs]
        · refine qv_when (b := false) a5 (et_is (hwE B5 _ _ (by decide) (by decide +kernel) rfl) nf) (fun h => nomatch h) (fun _ B6 H6 e6 a6 => ?_)
          refine qv_when (b := true) a6 (et_is (hwE B6 _ _ (by decide) (by decide +kernel) rfl) hs) (fun _ B7 H7 e7 a7 => ?_) (fun h => nomatch h)
          refine sv_ret (P := DD K (.int (if i = j then textM m o k l else 0))) a7 (ev_if (b := decide (i = j)) (eqI _ _ 4 5 i j rfl rfl) (fun hk => ?_) (fun hk => ?_)) fun v1 B8 H8 e8 a8 h8 => fin1 _ _ _ _ a8 h8 ?_
          · rw [if_pos (of_decide_eq_true hk)]
            exact sumE _ k l 6 7 ((e15.trans e6).trans e7) (by omega) (by omega) (by omega) (by omega) _ rfl rfl rfl rfl (fun c => ⟨rfl, rfl, rfl, rfl, rfl⟩) (fun c => rfl)
          · rw [if_neg (of_decide_eq_false hk)]
            exact ed_int
          · unfold oneM
            rw [if_neg (show ¬ (how == ("same" : Str)) = true by rw [ns]; decide), if_neg (show ¬ (how == ("first" : Str)) = true by rw [nf]; decide)]
    · have hm := inS_mem hw
      have hsh := shWOT how (List.mem_append_right _ (List.mem_append_right _ hm))
      obtain ⟨n1, n2, n3, n4, n5⟩ := lrT how hm
      refine qv_asg (P := DD K (.str how)) a1 (ed_op (ed_var rfl (hv.up e1)) ed_int (rd_ixT (atI_nat (j := 1) rfl))) fun vh B2 H2 e2 a2 hh => ?_
      obtain ⟨rfl, hhl⟩ := dd_str hh
      have e12 := e1.trans e2
      have hwE : ∀ B2 (σ : L2.St) (x : Str), x.length ≤ sizeLine → SeqAt.shaped (.str x) = true → σ[8]? = some (some (.str how)) → ETt Fm.pure (tTest (tOp (rEqD K) (tVar 8) (tC (.str x)))) σ B2 (how == x) := fun B2 σ x hx hs hσ => et_is (et_cmp (ed_op (ed_var hσ (.str how hhl)) (ed_str hx) (rd_eqD hsh hs))) (eqv_str _ _)
      refine qv_when (b := false) a2 (et_is (hwE B2 _ _ (by decide) (by decide +kernel) rfl) n1) (fun h => nomatch h) (fun _ B3 H3 e3 a3 => ?_)
      refine qv_when (b := false) a3 (et_is (hwE B3 _ _ (by decide) (by decide +kernel) rfl) n2) (fun h => nomatch h) (fun _ B4 H4 e4 a4 => ?_)
      refine qv_when (b := false) a4 (et_is (hwE B4 _ _ (by decide) (by decide +kernel) rfl) n3) (fun h => nomatch h) (fun _ B5 H5 e5 a5 => ?_)
      refine qv_when (b := false) a5 (et_is (hwE B5 _ _ (by decide) (by decide +kernel) rfl) n4) (fun h => nomatch h) (fun _ B6 H6 e6 a6 => ?_)
      refine qv_when (b := false) a6 (et_is (hwE B6 _ _ (by decide) (by decide +kernel) rfl) n5) (fun h => nomatch h) (fun _ B7 H7 e7 a7 => ?_)
      have e17 := (((e12.trans e3).trans e4).trans e5).trans (e6.trans e7)
      refine qv_asg (P := DD K (.int 0)) a7 ed_int fun v8 B8 H8 e8 a8 h8 => ?_
      obtain rfl := dd_int h8
      have e18 := e17.trans e8
      refine q_forP (ds := (splitsM how o ot i j k l).map pairKD) (i := 10) (j := 11) a8.j (ev_seqL (ed_F (eds_cons (ed_var rfl (hv.up e18)) (eds_cons (ed_var rfl (hu.up e18)) eds_nil)) ⟨r0, how, o, ot, i, j, k, l, rfl, hsh, ⟨by omega, by omega⟩, ⟨by omega, by omega⟩, ⟨by omega, by omega⟩, ⟨by omega, by omega⟩⟩ rfl)) (fun d hd => by
        obtain ⟨p, _, rfl⟩ := List.mem_map.mp hd
        exact ⟨_, _, rfl⟩) (fun n σ' B' H' => Ex B8 B' ∧ At Fm.pure B H B' H' ∧ ∃ o10 o11, σ' = [some v, some u, some t, some y, some (.int i), some (.int j), some (.int k), some (.int l), some (.str how), some (.int (sumS m ((splitsM how o ot i j k l).take n))), o10, o11, none]) (fun n σ' B' H' hj => hj.2.1.e) (fun B9 H9 s9 => ⟨s9.bb, ⟨a8.st.trans s9, Ok.any s9.bh⟩, _, _, rfl⟩) (fun Bb n x z vx vz σ' B9 H9 hn eb e9 hx hz hj => ?_) (fun σ' B9 H9 e9 hj => ?_)
      · obtain ⟨eB, a9, o10, o11, rfl⟩ := hj
        rw [List.getElem?_map] at hn
        obtain ⟨⟨ka, kb⟩, hp, ep⟩ := Option.map_eq_some_iff.mp hn
        cases ep
        have hka : ka.length = 5 ∧ kb.length = 5 := splits_len (List.mem_of_getElem? hp)
        have nea : ka ≠ [] := fun z => by rw [z] at hka; cases hka.1
        have neb : kb ≠ [] := fun z => by rw [z] at hka; cases hka.2
        have eB9 := e18.trans eB
        have keyA : ∀ Bx (σ : L2.St), Ex B9 Bx → σ[10]? = some (some vx) → EV Fm.pure (tVar 10) σ Bx (KeyV ka) := fun Bx σ ex hσ => Dx.ev_var (P := KeyV ka) hσ upc_key (upc_key _ _ _ ex (key_of hK nea hx))
        have keyB : ∀ Bx (σ : L2.St), Ex B9 Bx → σ[11]? = some (some vz) → EV Fm.pure (tVar 11) σ Bx (KeyV kb) := fun Bx σ ex hσ => Dx.ev_var (P := KeyV kb) hσ upc_key (upc_key _ _ _ ex (key_of hK neb hz))
        have sS := sumS_succ (m := m) hp
        refine sv_if (b := (lkI m ka).isSome) a9 (et_val (K := K) ((ev_din (dicE _ _ eB9 rfl) (keyA B9 _ (Ex.refl B9) rfl)).imp fun v _ _ e => by rw [e]; exact .bl _)) (fun hb B10 H10 e10 a10 => ?_) (fun hb B10 H10 e10 a10 => ?_)
        · refine sv_asg (P := DD K (.int (sumS m ((splitsM how o ot i j k l).take n) + atG m ka * atG m kb))) a10 (ed_op (ed_var rfl (.int _)) (ed_op ((ev_dget (dicE _ _ (eB9.trans e10) rfl) (keyA B10 _ e10 rfl) (lk_atG hb)).imp fun v _ _ e => (by rw [e]; exact .int _ : Dd K _ v (.int (atG m ka)))) (ed_dget2 (dicE _ _ (eB9.trans e10) rfl) (keyB B10 _ e10 rfl)) (rd_mulW (mul_big hbig hb5 _ _))) rd_add) fun v11 B11 H11 e11 a11 h11 => ?_
          obtain rfl := dd_int h11
          refine ⟨B11, e9.trans (e10.trans e11), eB.trans (e10.trans e11), a11, some vx, some vz, ?_⟩
          rw [sS]
          unfold prodS
          rw [if_pos hb]
          rfl
        · refine ⟨B10, e9.trans e10, eB.trans e10, a10, some vx, some vz, ?_⟩
          rw [sS]
          unfold prodS
          rw [if_neg (by rw [hb]; decide), Int.add_zero]
          rfl
      · obtain ⟨eB, a9, o10, o11, rfl⟩ := hj
        rw [List.length_map, List.take_length]
        exact sv_ret (P := DD K (.int (sumS m (splitsM how o ot i j k l)))) a9 (ed_var rfl (.int _)) fun v10 B10 H10 e10 a10 h10 => fin _ _ _ _ a10 h10 rfl
end
end K12

namespace K12
open PySem PySem.Spec PyProof.Rows L2 Evl Ex Dx StX
open PySem.PyData (strOk)
section
variable {P : Program} {w : World} {K : PySem.W.Frag} {mg : Str → Option Value} {base : Heap} {f : Addr} {fd : FuncData}


/-! ### sums, powers -/
theorem sum_le {M : Int} : ∀ {l : List Int}, (∀ x ∈ l, 0 ≤ x ∧ x ≤ M) → 0 ≤ l.sum ∧ l.sum ≤ (l.length : Nat) * M
  | [], _ => ⟨Int.le_refl _, by simp⟩
  | x :: l, h => by
    have h1 := h x List.mem_cons_self
    have h2 := sum_le (l := l) fun y hy => h y (List.mem_cons_of_mem _ hy)
    rw [List.sum_cons, List.length_cons]
    refine ⟨by omega, ?_⟩
    have e : (((l.length + 1 : Nat)) : Int) * M = (l.length : Nat) * M + M := by
      rw [Int.natCast_add, Int.add_mul]
      simp
    omega
def pw (b : Nat) : Int := ((2 ^ b : Nat) : Int)
theorem pw_pos (b : Nat) : 1 ≤ pw b := by
  have : 1 ≤ 2 ^ b := Nat.one_le_two_pow
  unfold pw
  omega
theorem pw_mono {a b : Nat} (h : a ≤ b) : pw a ≤ pw b := by
  have : 2 ^ a ≤ 2 ^ b := Nat.pow_le_pow_right (by decide) h
  unfold pw
  omega
theorem pw_mul (a b : Nat) : pw a * pw b = pw (a + b) := by
  unfold pw
  rw [← Int.natCast_mul, ← Nat.pow_add]
theorem mul_pw {x y : Int} {a b : Nat} (hx : 0 ≤ x ∧ x ≤ pw a) (hy : 0 ≤ y ∧ y ≤ pw b) : 0 ≤ x * y ∧ x * y ≤ pw (a + b) := by
  refine ⟨Int.mul_nonneg hx.1 hy.1, ?_⟩
  rw [← pw_mul]
  exact Int.mul_le_mul hx.2 hy.2 hy.1 (Int.le_trans hx.1 hx.2)
theorem len_pw {n : Nat} {a b : Nat} (h : n ≤ 2 ^ a) : ((n : Nat) : Int) * pw b ≤ pw (a + b) := by
  have h2 : (0 : Int) ≤ (n : Nat) ∧ ((n : Nat) : Int) ≤ pw a := ⟨by omega, by unfold pw; omega⟩
  exact (mul_pw h2 ⟨by have := pw_pos b; omega, Int.le_refl _⟩).2
/-! ### sizes of keys -/
def szK : List Int → Int
  | [_, i, j, k, l] => (j - i) + (l - k)
  | _ => 0
/-- bits that a value at a key of this size may have -/
def bz (E : Nat) (z : Int) : Nat := (2 * z.toNat - 1) * E
def VP (E : Nat) (m : Mp) : Prop := ∀ key v, lkI m key = some v → 1 ≤ szK key ∧ 0 < v ∧ v ≤ pw (bz E (szK key))
theorem atG_vp {E : Nat} {m : Mp} (h : VP E m) (key : List Int) : 0 ≤ atG m key ∧ atG m key ≤ pw (bz E (szK key)) := by
  unfold atG
  cases hh : lkI m key with
  | none => exact ⟨Int.le_refl _, by have := pw_pos (bz E (szK key)); show (0 : Int) ≤ _; omega⟩
  | some v =>
    obtain ⟨_, h2, h3⟩ := h key v hh
    exact ⟨by show (0 : Int) ≤ v; omega, h3⟩
theorem text_vp {E : Nat} {m : Mp} (h : VP E m) (o b e : Int) (hb : e - b ≤ 100) : 0 ≤ textM m o b e ∧ textM m o b e ≤ pw (7 + bz E (e - b)) := by
  unfold textM
  have h1 : ∀ x ∈ (List.range (e + 1 - b).toNat).map (fun i : Nat => atG m [o, b, b + (i : Int), b + (i : Int), e]), 0 ≤ x ∧ x ≤ pw (bz E (e - b)) := fun x hx => by
    obtain ⟨i, _, rfl⟩ := List.mem_map.mp hx
    have := atG_vp h [o, b, b + (i : Int), b + (i : Int), e]
    rw [show szK [o, b, b + (i : Int), b + (i : Int), e] = e - b by show (b + (i : Int) - b) + (e - (b + (i : Int))) = _; omega] at this
    exact this
  refine ⟨(sum_le h1).1, Int.le_trans (sum_le h1).2 ?_⟩
  refine len_pw ?_
  rw [List.length_map, List.length_range]
  show _ ≤ 128
  omega
theorem split_sz {how : Str} {o ot i j k l : Int} {p : List Int × List Int} (h : p ∈ splitsM how o ot i j k l) : szK p.1 + szK p.2 = (j - i) + (l - k) := by
  unfold splitsM at h
  split at h
  · obtain ⟨c, _, hc⟩ := List.mem_flatMap.mp h
    obtain ⟨d, _, rfl⟩ := List.mem_map.mp hc
    show ((i + (c : Int)) - i + (l - (k + (d : Int)))) + ((j - (i + (c : Int))) + ((k + (d : Int)) - k)) = _
    omega
  · split at h
    · obtain ⟨c, _, hc⟩ := List.mem_flatMap.mp h
      obtain ⟨d, _, rfl⟩ := List.mem_map.mp hc
      show ((j - (i + (c : Int))) + (l - k)) + (((i + (d : Int)) - i) + ((i + (c : Int)) - (i + (d : Int)))) = _
      omega
    · obtain ⟨c, _, hc⟩ := List.mem_flatMap.mp h
      obtain ⟨d, _, rfl⟩ := List.mem_map.mp hc
      show ((j - i) + ((k + (c : Int)) - k)) + (((k + (c : Int) + (d : Int)) - (k + (c : Int))) + (l - (k + (c : Int) + (d : Int)))) = _
      omega
theorem prod_vp {E : Nat} {m : Mp} (h : VP E m) {p : List Int × List Int} {z : Int} (hz : szK p.1 + szK p.2 = z) : 0 ≤ prodS m p ∧ prodS m p ≤ pw (bz E z) := by
  have zero : (0 : Int) ≤ 0 ∧ (0 : Int) ≤ pw (bz E z) := ⟨Int.le_refl _, by have := pw_pos (bz E z); omega⟩
  unfold prodS
  split
  · rename_i h1
    have e1 := lk_atG h1
    cases h2 : lkI m p.2 with
    | none =>
      have : atG m p.2 = 0 := by
        unfold atG
        rw [h2]
        rfl
      rw [this, Int.mul_zero]
      exact zero
    | some v =>
      obtain ⟨a1, _, _⟩ := h _ _ e1
      obtain ⟨b1, _, _⟩ := h _ _ h2
      have r := mul_pw (atG_vp h p.1) (atG_vp h p.2)
      refine ⟨r.1, Int.le_trans r.2 (pw_mono ?_)⟩
      unfold bz
      rw [← Nat.add_mul]
      exact Nat.mul_le_mul_right _ (by omega)
  · exact zero
theorem splits_cnt {how : Str} {o ot i j k l : Int} (hi : 0 ≤ i) (hl : l ≤ 100) (h1 : i ≤ j) (h2 : j ≤ k) (h3 : k ≤ l) : (splitsM how o ot i j k l).length ≤ 2 ^ 14 := by
  have go : ∀ {f : Nat → List (List Int × List Int)} {n : Nat}, n ≤ 101 → (∀ c, c < n → (f c).length ≤ 101) → (accR f n).length ≤ 2 ^ 14 := fun hn hf => Nat.le_trans (acc_len _ hf) (Nat.le_trans (Nat.mul_le_mul_right 101 hn) (by decide))
  unfold splitsM
  split
  · refine go (by omega) fun c hc => ?_
    show (List.map _ _).length ≤ _
    rw [List.length_map, List.length_range]
    omega
  · split
    · refine go (by omega) fun c hc => ?_
      show (List.map _ _).length ≤ _
      rw [List.length_map, List.length_range]
      omega
    · refine go (by omega) fun c hc => ?_
      show (List.map _ _).length ≤ _
      rw [List.length_map, List.length_range]
      omega
theorem ways_vp {E : Nat} {m : Mp} (h : VP E m) (ts : List Str) {r : PyData} (hr : RuleIs r) {i j k l : Int} (hi : 0 ≤ i) (hl : l ≤ 100) (h1 : i ≤ j) (h2 : j ≤ k) (h3 : k ≤ l) : 0 ≤ waysM ts m r i j k l ∧ waysM ts m r i j k l ≤ pw (14 + bz E ((j - i) + (l - k))) := by
  have P := pw_pos (14 + bz E ((j - i) + (l - k)))
  have one : ∀ {x : Int}, 0 ≤ x ∧ x ≤ 1 → 0 ≤ x ∧ x ≤ pw (14 + bz E ((j - i) + (l - k))) := fun hx => ⟨hx.1, by omega⟩
  rcases hr with ⟨r0, how, s, rfl, _, _⟩ | ⟨r0, how, o, rfl, _⟩ | ⟨r0, how, o, ot, rfl, _⟩
  · refine one ?_
    show 0 ≤ (if (how == ("left" : Str)) = true then wayL ts s i j (decide (k = l)) else wayR ts s k l (decide (i = j))) ∧ (if (how == ("left" : Str)) = true then wayL ts s i j (decide (k = l)) else wayR ts s k l (decide (i = j))) ≤ 1
    have wl : ∀ a b c, 0 ≤ wayL ts s a b c ∧ wayL ts s a b c ≤ 1 := fun a b c => by
      unfold wayL
      split
      · split <;> omega
      · omega
    have wr : ∀ a b c, 0 ≤ wayR ts s a b c ∧ wayR ts s a b c ≤ 1 := fun a b c => by
      unfold wayR
      split
      · split <;> omega
      · omega
    split
    · exact wl _ _ _
    · exact wr _ _ _
  · show 0 ≤ oneM m how o i j k l ∧ oneM m how o i j k l ≤ _
    have tx : ∀ b e, e - b = (j - i) + (l - k) → 0 ≤ textM m o b e ∧ textM m o b e ≤ pw (14 + bz E ((j - i) + (l - k))) := fun b e he => by
      have := text_vp h o b e (by omega)
      rw [he] at this
      exact ⟨this.1, Int.le_trans this.2 (pw_mono (by omega))⟩
    unfold oneM
    split
    · have := atG_vp h [o, i, j, k, l]
      exact ⟨this.1, Int.le_trans this.2 (pw_mono (by show bz E ((j - i) + (l - k)) ≤ _; omega))⟩
    · split
      · split
        · exact tx i j (by omega)
        · exact one ⟨by omega, by omega⟩
      · split
        · exact tx k l (by omega)
        · exact one ⟨by omega, by omega⟩
  · show 0 ≤ sumS m (splitsM how o ot i j k l) ∧ sumS m (splitsM how o ot i j k l) ≤ _
    have hb : ∀ x ∈ (splitsM how o ot i j k l).map (prodS m), 0 ≤ x ∧ x ≤ pw (bz E ((j - i) + (l - k))) := fun x hx => by
      obtain ⟨p, hp, rfl⟩ := List.mem_map.mp hx
      exact prod_vp h (split_sz hp)
    refine ⟨(sum_le hb).1, Int.le_trans (sum_le hb).2 (len_pw ?_)⟩
    rw [List.length_map]
    exact splits_cnt hi hl h1 h2 h3
/-! ### one cell of the tally -/
def waysC (ts : List Str) (m : Mp) (r : PyData) : List Int → Int
  | [i, j, k, l] => waysM ts m r i j k l
  | _ => 0
def numM (ts : List Str) (m : Mp) (rs : List PyData) (k : Int) (c : List Int) : Int := ((rs.filter fun r => decide (kdOf r = k)).map fun r => waysC ts m r c).sum
def stepT (ts : List Str) (rs : List PyData) (m : Mp) (k : Int) (c : List Int) : Mp := if 0 < numM ts m rs k c then ptI m (k :: c) (numM ts m rs k c) else m
/-- keys that may be -/
def KV (nk n : Nat) (key : List Int) : Prop := ∃ k i j g l : Int, key = [k, i, j, g, l] ∧ (0 ≤ k ∧ k < (nk : Nat)) ∧ 0 ≤ i ∧ i ≤ j ∧ j ≤ g ∧ g ≤ l ∧ l ≤ (n : Nat)
def CV (n : Nat) (c : List Int) : Prop := ∃ i j g l : Int, c = [i, j, g, l] ∧ 0 ≤ i ∧ i ≤ j ∧ j ≤ g ∧ g ≤ l ∧ l ≤ (n : Nat)
structure TB (nk n q : Nat) (m : Mp) : Prop where
  nd : Nd m
  kv : ∀ p ∈ m, KV nk n p.1
  vp : VP (20 * (q + 1)) m
theorem bz_mono {E E' : Nat} (h : E ≤ E') (z : Int) : bz E z ≤ bz E' z := Nat.mul_le_mul_left _ h
theorem VP.mono {E E' : Nat} {m : Mp} (h : VP E m) (he : E ≤ E') : VP E' m := fun key v hv => by
  obtain ⟨a, b, c⟩ := h key v hv
  exact ⟨a, b, Int.le_trans c (pw_mono (bz_mono he _))⟩
theorem TB.mono {nk n q q' : Nat} {m : Mp} (h : TB nk n q m) (hq : q ≤ q') : TB nk n q' m := ⟨h.nd, h.kv, h.vp.mono (by omega)⟩
theorem tb_nil {nk n : Nat} : TB nk n 0 [] := ⟨List.nodup_nil, fun p hp => (nomatch hp), fun key v hv => (nomatch hv)⟩
theorem num_vp {E : Nat} {ts : List Str} {m : Mp} {rs : List PyData} (h : VP E m) (hr : ∀ r ∈ rs, RuleIs r) (hl : rs.length ≤ 16) (k : Int) {i j g l : Int} (hi : 0 ≤ i) (hl : l ≤ 100) (h1 : i ≤ j) (h2 : j ≤ g) (h3 : g ≤ l) : 0 ≤ numM ts m rs k [i, j, g, l] ∧ numM ts m rs k [i, j, g, l] ≤ pw (4 + (14 + bz E ((j - i) + (l - g)))) := by
  unfold numM
  have hb : ∀ x ∈ (rs.filter fun r => decide (kdOf r = k)).map (fun r => waysC ts m r [i, j, g, l]), 0 ≤ x ∧ x ≤ pw (14 + bz E ((j - i) + (l - g))) := fun x hx => by
    obtain ⟨r, hr', rfl⟩ := List.mem_map.mp hx
    exact ways_vp h ts (hr r (List.mem_filter.mp hr').1) hi hl h1 h2 h3
  refine ⟨(sum_le hb).1, Int.le_trans (sum_le hb).2 (len_pw ?_)⟩
  rw [List.length_map]
  exact Nat.le_trans (List.length_filter_le _ _) (by omega)
theorem tb_step {nk n q : Nat} {ts : List Str} {m : Mp} {rs : List PyData} (h : TB nk n q m) (hr : ∀ r ∈ rs, RuleIs r) (hl : rs.length ≤ 16) {k : Int} (hk : 0 ≤ k ∧ k < (nk : Nat)) {c : List Int} (hc : CV n c) (hz : ∀ x, 1 ≤ szK (x :: c)) (hn : n ≤ 100) : TB nk n (q + 1) (stepT ts rs m k c) := by
  obtain ⟨i, j, g, l, rfl, b0, b1, b2, b3, b4⟩ := hc
  have hz1 : 1 ≤ (j - i) + (l - g) := hz 0
  unfold stepT
  split
  · rename_i hp
    refine ⟨pt_nd h.nd _ _, fun p hp' => ?_, fun key v hv => ?_⟩
    · have hm : p.1 ∈ (ptI m (k :: [i, j, g, l]) (numM ts m rs k [i, j, g, l])).map (·.1) := List.mem_map.mpr ⟨p, hp', rfl⟩
      rw [pt_keys] at hm
      split at hm
      · obtain ⟨p', hp2, e⟩ := List.mem_map.mp hm
        rw [← e]
        exact h.kv p' hp2
      · rcases List.mem_append.mp hm with hm | hm
        · obtain ⟨p', hp2, e⟩ := List.mem_map.mp hm
          rw [← e]
          exact h.kv p' hp2
        · rw [List.mem_singleton.mp hm]
          exact ⟨k, i, j, g, l, rfl, hk, b0, b1, b2, b3, b4⟩
    · rw [lk_pt] at hv
      split at hv
      · rename_i ek
        cases hv
        rw [ek]
        refine ⟨hz1, hp, ?_⟩
        have := (num_vp (ts := ts) h.vp hr hl k b0 (by omega) b1 b2 b3).2
        refine Int.le_trans this (pw_mono ?_)
        show 4 + (14 + (2 * ((j - i) + (l - g)).toNat - 1) * (20 * (q + 1))) ≤ (2 * ((j - i) + (l - g)).toNat - 1) * (20 * (q + 1 + 1))
        have e2 : (2 * ((j - i) + (l - g)).toNat - 1) * (20 * (q + 1 + 1)) = (2 * ((j - i) + (l - g)).toNat - 1) * (20 * (q + 1)) + (2 * ((j - i) + (l - g)).toNat - 1) * 20 := by
          rw [← Nat.mul_add, Nat.mul_succ 20 (q + 1)]
        rw [e2]
        have : 1 * 20 ≤ (2 * ((j - i) + (l - g)).toNat - 1) * 20 := Nat.mul_le_mul_right _ (by omega)
        omega
      · exact h.vp.mono (by omega) key v hv
  · exact h.mono (by omega)
/-! ### the whole tally -/
def rowT (ts : List Str) (rs : List PyData) (k : Int) (cs : List (List Int)) (m : Mp) (b : Nat) : Mp := (cs.take b).foldl (fun m c => stepT ts rs m k c) m
theorem rowT_succ {ts : List Str} {rs : List PyData} {k : Int} {cs : List (List Int)} {m : Mp} {b : Nat} {c : List Int} (h : cs[b]? = some c) : rowT ts rs k cs m (b + 1) = stepT ts rs (rowT ts rs k cs m b) k c := by
  unfold rowT
  rw [take_snoc h, List.foldl_append]
  rfl
def kindsT (ts : List Str) (rs : List PyData) (ord : List Int) (cs : List (List Int)) (m : Mp) (a : Nat) : Mp := (ord.take a).foldl (fun m k => rowT ts rs k cs m cs.length) m
theorem kindsT_succ {ts : List Str} {rs : List PyData} {ord : List Int} {cs : List (List Int)} {m : Mp} {a : Nat} {k : Int} (h : ord[a]? = some k) : kindsT ts rs ord cs m (a + 1) = rowT ts rs k cs (kindsT ts rs ord cs m a) cs.length := by
  unfold kindsT
  rw [take_snoc h, List.foldl_append]
  rfl
def sizeC : List Int → Int
  | [i, j, k, l] => j - i + l - k
  | _ => 0
def nowL (n : Nat) (sz : Int) : List (List Int) := (cellsL n).filter fun c => decide (sizeC c = sz)
def sizesT (ts : List Str) (rs : List PyData) (ord : List Int) (n : Nat) : Nat → Mp
  | 0 => []
  | s + 1 => kindsT ts rs ord (nowL n ((s : Int) + 1)) (sizesT ts rs ord n s) ord.length
def tallyM (ts : List Str) (rs : List PyData) (nk : Nat) : Mp := sizesT ts rs (orderO (edges rs) nk nk) ts.length ts.length
theorem cells_cv {n : Nat} {c : List Int} (h : c ∈ cellsL n) : CV n c := by
  obtain ⟨sz, _, h⟩ := List.mem_flatMap.mp h
  obtain ⟨i, hi, h⟩ := List.mem_flatMap.mp h
  obtain ⟨a, ha, h⟩ := List.mem_flatMap.mp h
  obtain ⟨b, hb, h⟩ := List.mem_flatMap.mp h
  unfold c4 at h
  split at h
  · rename_i hc
    rw [Bool.and_eq_true, decide_eq_true_eq, decide_eq_true_eq] at hc
    rw [List.mem_singleton.mp h]
    have := List.mem_range.mp hi
    have := List.mem_range.mp ha
    have := List.mem_range.mp hb
    exact ⟨_, _, _, _, rfl, by omega, by omega, by omega, hc.1, hc.2⟩
  · cases h
theorem now_cv {n : Nat} {sz : Int} {c : List Int} (h : c ∈ nowL n sz) : CV n c ∧ sizeC c = sz := ⟨cells_cv (List.mem_filter.mp h).1, of_decide_eq_true (List.mem_filter.mp h).2⟩
theorem sz_of {n : Nat} {c : List Int} (h : CV n c) (x : Int) : szK (x :: c) = sizeC c := by
  obtain ⟨i, j, g, l, rfl, _⟩ := h
  show (j - i) + (l - g) = j - i + l - g
  omega
theorem tb_row {nk n q : Nat} {ts : List Str} {m : Mp} {rs : List PyData} (h : TB nk n q m) (hr : ∀ r ∈ rs, RuleIs r) (hl : rs.length ≤ 16) {k : Int} (hk : 0 ≤ k ∧ k < (nk : Nat)) {sz : Int} (hs : 1 ≤ sz) (hn : n ≤ 100) : ∀ b, b ≤ (nowL n sz).length → TB nk n (q + b) (rowT ts rs k (nowL n sz) m b)
  | 0, _ => h
  | b + 1, hb => by
    have hc : (nowL n sz)[b]? = some (nowL n sz)[b] := List.getElem?_eq_getElem (by omega)
    rw [rowT_succ hc]
    have cv := now_cv (List.mem_of_getElem? hc)
    exact tb_step (tb_row h hr hl hk hs hn b (by omega)) hr hl hk cv.1 (fun x => by rw [sz_of cv.1, cv.2]; exact hs) hn
theorem tb_kinds {nk n q : Nat} {ts : List Str} {m : Mp} {rs : List PyData} (h : TB nk n q m) (hr : ∀ r ∈ rs, RuleIs r) (hl : rs.length ≤ 16) {ord : List Int} (ho : InR nk ord) {sz : Int} (hs : 1 ≤ sz) (hn : n ≤ 100) : ∀ a, a ≤ ord.length → TB nk n (q + a * (nowL n sz).length) (kindsT ts rs ord (nowL n sz) m a)
  | 0, _ => by
    rw [Nat.zero_mul]
    exact h
  | a + 1, ha => by
    have hc : ord[a]? = some ord[a] := List.getElem?_eq_getElem (by omega)
    rw [kindsT_succ hc, Nat.succ_mul, ← Nat.add_assoc]
    exact tb_row (tb_kinds h hr hl ho hs hn a (by omega)) hr hl (ho _ (List.mem_of_getElem? hc)) hs hn _ (Nat.le_refl _)
def preN (n : Nat) : Nat → Nat
  | 0 => 0
  | s + 1 => preN n s + (nowL n ((s : Int) + 1)).length
theorem tb_sizes {nk n : Nat} {ts : List Str} {rs : List PyData} (hr : ∀ r ∈ rs, RuleIs r) (hl : rs.length ≤ 16) {ord : List Int} (ho : InR nk ord) (hn : n ≤ 100) : ∀ s, TB nk n (ord.length * preN n s) (sizesT ts rs ord n s)
  | 0 => tb_nil
  | s + 1 => by
    show TB nk n (ord.length * (preN n s + (nowL n ((s : Int) + 1)).length)) _
    rw [Nat.mul_add]
    exact tb_kinds (tb_sizes hr hl ho hn s) hr hl ho (by omega) hn _ (Nat.le_refl _)
theorem pre_small : ∀ n ≤ 5, ∀ s ≤ n, preN n s ≤ 126 := by decide +kernel
theorem pre_mono {n : Nat} : ∀ {s t}, s ≤ t → preN n s ≤ preN n t := fun {s t} h => by
  induction t with
  | zero => rw [show s = 0 by omega]; exact Nat.le_refl _
  | succ t ih =>
    rcases Nat.lt_or_ge t s with h1 | h1
    · rw [show s = t + 1 by omega]
      exact Nat.le_refl _
    · exact Nat.le_trans (ih h1) (Nat.le_add_right _ _)
theorem nodup_len {α : Type} [DecidableEq α] : ∀ {l L : List α}, l.Nodup → (∀ x ∈ l, x ∈ L) → l.length ≤ L.length
  | [], _, _, _ => Nat.zero_le _
  | x :: l, L, h, hs => by
    have hx : x ∈ L := hs x List.mem_cons_self
    have h' := List.nodup_cons.mp h
    have := nodup_len (l := l) (L := L.erase x) h'.2 fun y hy => by
      have ne : y ≠ x := fun e => h'.1 (e ▸ hy)
      exact (List.mem_erase_of_ne ne).mpr (hs y (List.mem_cons_of_mem _ hy))
    rw [List.length_erase_of_mem hx] at this
    have : 0 < L.length := List.length_pos_of_mem hx
    rw [List.length_cons]
    omega
theorem stepO_nodup {es : List (Int × Int)} {S : List Int} {k : Int} (h : S.Nodup) : (stepO es S k).Nodup := by
  unfold stepO
  split
  · rename_i hc
    rw [Bool.and_eq_true] at hc
    have hk : k ∉ S := fun hm => by
      have : S.contains k = true := List.contains_iff_mem.mpr hm
      rw [this] at hc
      cases hc.1
    refine List.nodup_append.mpr ⟨h, List.nodup_cons.mpr ⟨List.not_mem_nil, List.nodup_nil⟩, fun a ha b hb => ?_⟩
    rw [List.mem_singleton.mp hb]
    intro e
    exact hk (e ▸ ha)
  · exact h
theorem roundO_nodup {es : List (Int × Int)} {n : Nat} {S : List Int} (h : S.Nodup) : ∀ i, (roundO es n S i).Nodup
  | 0 => h
  | i + 1 => stepO_nodup (roundO_nodup h i)
theorem orderO_nodup {es : List (Int × Int)} {n : Nat} : ∀ t, (orderO es n t).Nodup
  | 0 => List.nodup_nil
  | t + 1 => roundO_nodup (orderO_nodup t) n
theorem orderO_n {es : List (Int × Int)} {n : Nat} (t : Nat) : (orderO es n t).length ≤ n := by
  have := nodup_len (L := (List.range n).map fun i : Nat => (i : Int)) (orderO_nodup (es := es) (n := n) t) fun x hx => by
    obtain ⟨h0, h1⟩ := orderO_in t x hx
    exact List.mem_map.mpr ⟨x.toNat, List.mem_range.mpr (by omega), by omega⟩
  rw [List.length_map, List.length_range] at this
  exact this
def allK (nk n : Nat) : List (List Int) := (List.range nk).flatMap fun k : Nat => (placesL n).map fun c => (k : Int) :: c
theorem kv_all {nk n : Nat} {key : List Int} (h : KV nk n key) : key ∈ allK nk n := by
  obtain ⟨k, i, j, g, l, rfl, hk, b0, b1, b2, b3, b4⟩ := h
  refine List.mem_flatMap.mpr ⟨k.toNat, List.mem_range.mpr (by omega), List.mem_map.mpr ⟨[i, j, g, l], places_mem.mpr ⟨i.toNat, j.toNat, g.toNat, l.toNat, ?_, by omega, by omega, by omega, by omega⟩, ?_⟩⟩
  · rw [Int.toNat_of_nonneg b0, Int.toNat_of_nonneg (by omega), Int.toNat_of_nonneg (by omega), Int.toNat_of_nonneg (by omega)]
  · rw [Int.toNat_of_nonneg hk.1]
theorem places5 : ∀ n ≤ 5, (placesL n).length ≤ 126 := by decide +kernel
theorem allK_len {nk n : Nat} (hk : nk ≤ 8) (hn : n ≤ 5) : (allK nk n).length ≤ 1008 := by
  refine Nat.le_trans (flat_le (m := 126) fun k _ => ?_) (Nat.le_trans (Nat.mul_le_mul_right 126 hk) (by decide))
  rw [List.length_map]
  exact places5 n hn
theorem keys_len {nk n : Nat} {m : Mp} (hd : Nd m) (hk : ∀ p ∈ m, KV nk n p.1) (h8 : nk ≤ 8) (h5 : n ≤ 5) : m.length ≤ 1008 := by
  have := nodup_len (L := allK nk n) (show (m.map (·.1)).Nodup from hd) fun x hx => by
    obtain ⟨p, hp, rfl⟩ := List.mem_map.mp hx
    exact kv_all (hk p hp)
  rw [List.length_map] at this
  exact Nat.le_trans this (allK_len h8 h5)
theorem TB.big {nk n q : Nat} {m : Mp} (h : TB nk n q m) (hn : n ≤ 5) (hq : q ≤ 1008) : Big 200000 m := fun k => by
  unfold atG
  cases hh : lkI m k with
  | none => exact Nat.pow_pos (by decide)
  | some v =>
    obtain ⟨h1, h2, h3⟩ := h.vp k v hh
    have hkv := h.kv (k, v) (lkI_some_mem hh)
    obtain ⟨kk, i, j, g, l, ek, _, b0, b1, b2, b3, b4⟩ := hkv
    have ek' : k = [kk, i, j, g, l] := ek
    have hz : szK k ≤ 5 := by
      rw [ek']
      show (j - i) + (l - g) ≤ 5
      omega
    have hb : bz (20 * (q + 1)) (szK k) ≤ 199999 := by
      refine Nat.le_trans (Nat.mul_le_mul (show 2 * (szK k).toNat - 1 ≤ 9 by omega) (show 20 * (q + 1) ≤ 20180 by omega)) (by decide)
    have h4 : v ≤ pw 199999 := Int.le_trans h3 (pw_mono hb)
    show v.natAbs < 2 ^ 200000
    have h5 : 2 ^ 199999 < 2 ^ 200000 := Nat.pow_lt_pow_right (by decide) (by decide)
    have h6 : v.natAbs ≤ 2 ^ 199999 := by
      have : (v.natAbs : Int) ≤ ((2 ^ 199999 : Nat) : Int) := by
        rw [Int.natAbs_of_nonneg (by omega)]
        exact h4
      exact Int.ofNat_le.mp this
    exact Nat.lt_of_le_of_lt h6 h5

end
end K12

namespace K12
open PySem PySem.Spec PyProof.Rows L2 Evl Ex Dx StX
open PySem.PyData (strOk)
section
variable {P : Program} {w : World} {K : PySem.W.Frag} {mg : Str → Option Value} {base : Heap} {f : Addr} {fd : FuncData}


theorem sh_str {s : Str} (h : strOk s = true) : SeqAt.shaped (.str s) = true := (sm_str (n := 0) h).sh
theorem atom_ok {s : Str} (h : atomD (.str s) = true) : strOk s = true := by
  have : s ∈ L12 := List.contains_iff_mem.mp h
  exact (strF s this).1
theorem rg_kr {n : Nat} {r : PyData} (h : RG n r) : KR r ∧ kdOf r < (n : Nat) ∧ 0 ≤ kdOf r := by
  obtain ⟨a, s, p, ps, rfl, a0, a1, ht⟩ := ruleD_is h.1
  refine ⟨⟨?_, a, _, rfl⟩, a1, a0⟩
  unfold tailD at ht
  split at ht
  · rename_i hw
    rw [Bool.and_eq_true, decide_eq_true_eq] at ht
    obtain ⟨hl, hp⟩ := ht
    have e : ps = [] := List.eq_nil_of_length_eq_zero (by simpa using hl)
    subst e
    have hp' : wordD p = true := hp
    cases p with
    | str u =>
      refine .inl ⟨.int a, s, u, rfl, hw, ?_⟩
      rcases smD_is h.2 with h1 | ⟨ds, e, _, h2⟩
      · cases h1
      · cases e
        have := h2 (.str u) (by simp)
        exact sh_str (atom_ok this)
    | _ => cases hp'
  · split at ht
    · rename_i ho
      rw [Bool.and_eq_true, decide_eq_true_eq] at ht
      obtain ⟨hl, hp⟩ := ht
      have e : ps = [] := List.eq_nil_of_length_eq_zero (by simpa using hl)
      subst e
      have hp' : inB p 0 ((n : Nat) - 1) = true := hp
      obtain ⟨c, rfl, _⟩ := inB_is hp'
      exact .inr (.inl ⟨.int a, s, c, rfl, ho⟩)
    · rw [Bool.and_eq_true, Bool.and_eq_true, decide_eq_true_eq] at ht
      obtain ⟨hs, hl, hp⟩ := ht
      match ps, hl, hp with
      | [p2], hl, hp =>
        have h1 : (inB p 0 ((n : Nat) - 1) && (inB p2 0 ((n : Nat) - 1) && true)) = true := hp
        rw [Bool.and_eq_true, Bool.and_eq_true] at h1
        obtain ⟨c, rfl, _⟩ := inB_is h1.1
        obtain ⟨d, rfl, _⟩ := inB_is h1.2.1
        exact .inr (.inr ⟨.int a, s, c, d, rfl, hs⟩)
theorem ed_kd {F : Fm} {σ : L2.St} {B : Hp} {i : Nat} {v : V} {r : PyData} (hi : σ[i]? = some (some v)) (hv : Dd K B v r) (hr : KR r) : ED F K (tOp (rIx K) (tVar i) (tC (.int 0))) σ B (.int (kdOf r)) := by
  obtain ⟨_, a, rest, rfl⟩ := hr
  exact ed_op (ed_var hi hv) ed_int (rd_ixT (atI_nat (j := 0) rfl))
/-- (k,) + cell -/
theorem ev_keyC {F : Fm} {σ : L2.St} {B : Hp} {tk : TE} {i : Nat} {v : V} {k : Int} {c : List Int} {n : Nat} (hK : noInts K = true) (h : ED F K tk σ B (.int k)) (hi : σ[i]? = some (some v)) (hv : Dd K B v (cellD c)) (hc : CV n c) : EV F (tOp (rAddA K) (tTup (tCons tk tNil)) (tVar i)) σ B (KeyV (k :: c)) := by
  obtain ⟨a, b, e, f, rfl, _⟩ := hc
  exact EV.imp (P := DD K (.tuple ((k :: [a, b, e, f]).map .int))) (ed_op (ed_tup (eds_cons h eds_nil)) (ed_var hi hv) (rd_addT (ds := [.int k]) (es := [.int a, .int b, .int e, .int f]) (Nat.le_of_ble_eq_true rfl))) fun w Bw _ g => key_of hK (k := k :: [a, b, e, f]) (fun z => nomatch z) g
/-- ways of a rule at a cell, looked up -/
theorem ed_ways {F : Fm} {σ : L2.St} {B : Hp} {E : XK} {i1 i2 i3 : Nat} {v1 v2 v3 : V} {t4 : TE} {r : PyData} {c : List Int} {ts : List Str} {m : Mp} {b : Nat} (h1 : σ[i1]? = some (some v1)) (h2 : σ[i2]? = some (some v2)) (h3 : σ[i3]? = some (some v3)) (g1 : Dd K B v1 r) (g2 : Dd K B v2 (cellD c)) (g3 : Dd K B v3 (.tuple (ts.map .str))) (h4 : EV F t4 σ B (DicV m))
    (hr : RuleIs r) (hst : ∀ x ∈ ts, SeqAt.shaped (.str x) = true) (hlen : ts.length ≤ 100) (hb : Big b m) (hb5 : 0 < b ∧ b ≤ 500000) (hc : CV ts.length c) : ED F K (tCall (spLW K) [] E (tCons (tVar i1) (tCons (tVar i2) (tCons (tVar i3) (tCons t4 tNil))))) σ B (.int (waysC ts m r c)) := by
  obtain ⟨i, j, g, l, rfl, b0, b1, b2, b3, b4⟩ := hc
  exact ev_call (evs_cons upc_dd (ed_var h1 g1) (evs_cons upc_dd (ed_var h2 g2) (evs_cons upc_dd (ed_var h3 g3) (evs_cons upc_dic h4 evs_nil)))) fun B4 e6 H4 us jj hu Q q => by
    obtain ⟨w1, _, rfl, d1, w2, _, rfl, d2, w3, _, rfl, d3, w4, _, rfl, d4, rfl⟩ := hu
    exact ⟨B4, w1, w2, w3, w4, r, ts, i, j, g, l, m, b, rfl, jj.e, hr, hst, hlen, hb, hb5, d1, d3, d2, d4, ⟨b0, b1, b2, b3, b4⟩, fun B' H' s => q _ B' H' s.pure (jj.pure s) (.int _)⟩
/-! ### _law_tally -/
def spTY (K : PySem.W.Frag) : Sp := fun vs H Q _ => ∃ (B : Hp) (vg vt : V) (n : Nat) (rs : List PyData) (ts : List Str), vs = [vg, vt] ∧ Ex B H ∧ Dd K B vg (.tuple [.int (n : Nat), .tuple rs]) ∧ rs.length ≤ 9 ∧ (∀ r ∈ rs, RG n r) ∧ n ≤ 8 ∧ Dd K B vt (.tuple (ts.map .str)) ∧ (∀ x ∈ ts, SeqAt.shaped (.str x) = true) ∧ ts.length ≤ 5 ∧
  ∀ v' B' H', Step (fun _ => False) B H B' H' → DicV (tallyM ts rs n) v' B' → Q v' H'
theorem lc_rules {rs : List PyData} {f : PyData → Int} {p : PyData → Bool} : (rs.filter p).map (fun r => PyData.int (f r)) = ((rs.filter p).map f).map PyData.int := by rw [List.map_map]; rfl

abbrev s_law_tally : Stmt := topS 54
abbrev N_law_tally : List Str := ["grammar", "text", "kinds", "rules", "n", "found", "order_of", "cells", "size", "cell", "now", "kind", "number", "rule"]
theorem sc_law_tally : FnScope N_law_tally ["grammar", "text"] (defScope s_law_tally) := ⟨rfl, rfl, rfl, by decide +kernel, rfl, by decide +kernel, by decide +kernel⟩
theorem ok_law_tally (F : Fun K "_law_tally" "_law_tally" s_law_tally f fd) (T : TC K mg) (m_sum : mg "sum" = none) (hK : noInts K = true) (C_law_order : Callee P w K mg base "_law_order" 2 ["kinds", "rules"] (spF K preOrd fOrd)) (C_law_sorted_cells : Callee P w K mg base "_law_sorted_cells" 1 ["n"] (spF K preCl fCells)) (C_law_ways : Callee P w K mg base "_law_ways" 2 ["rule", "cell", "text", "found"] (spLW K)) : FnOk P w K mg base CX0 3 f fd ["grammar", "text"] (spTY K) := by
  refine F.ok sc_law_tally (fun vs H Q E h => ?_) (fun cdv A outer s H vs Q E hr h => ?_)
  · obtain ⟨B, vg, vt, n, rs, ts, rfl, _⟩ := h
    rfl
  · obtain ⟨B, vg, vt, n, rs, ts, rfl, ex, hg, hl9, hrg, hn8, ht, hst, hlen, q⟩ := h
    have hu64 : (A.deeper (envOfC "_law_tally" (defScope s_law_tally) s.heap.objs.size f cdv)).units + 64 < cLine := hr.units
    have hu1 : (A.deeper (envOfC "_law_tally" (defScope s_law_tally) s.heap.objs.size f cdv)).units + 1 < cLine := by omega
    refine ⟨_, (pss_cons (ps_asg (pv 0) (pg_tup (by rfl) (pgs_cons (pg_name (i := 2) sc_law_tally.nd rfl (Or.inl rfl)) (pgs_cons (pg_name (i := 3) sc_law_tally.nd rfl (Or.inl rfl)) pgs_nil))))
      (pss_cons (ps_set (i := 4) sc_law_tally.nd rfl (Or.inl rfl) (pe_callB (call_lenK K) (by rfl) T.m_len bt_len (pa_cons (pv 1) pa_nil)))
      (pss_cons (ps_set (i := 5) sc_law_tally.nd rfl (Or.inr rfl) pe_dnewT)
      (pss_cons (ps_set (i := 6) sc_law_tally.nd rfl (Or.inl rfl) (pe_callC C_law_order (hr.mono (by decide)) rfl pass0 (pa_cons (pv 2) (pa_cons (pv 3) pa_nil))))
      (pss_cons (ps_set (i := 7) sc_law_tally.nd rfl (Or.inl rfl) (pe_callC C_law_sorted_cells (hr.mono (by decide)) rfl pass0 (pa_cons (pv 4) pa_nil)))
      (pss_cons (ps_for PassesOwn.never rfl (pi_range2 rfl T.m_range (pa_cons pe_int (pa_cons (pe_op (op_addK K) (pv 4) pe_int) pa_nil))) (pg_name (i := 8) sc_law_tally.nd rfl (Or.inr rfl)) (pss_cons (ps_setLc (i := 10) (own := [("cell", 9)]) rfl sc_law_tally.nd rfl rfl (sw_true rfl rfl rfl (by decide +kernel)) (pi_seqK K (pv 7)) (blkOk_by (own := [("cell", 9)]) (N := N_law_tally) (sc := defScope s_law_tally) (by decide +kernel)) (fun _ _ _ _ _ => pg_name (i := 9) sc_law_tally.nd rfl (Or.inl rfl)) (fun _ _ _ _ _ => (pts_one (pt_cmpR (op_eqDK K hu64) (pe_op op_sub (pe_op (op_addK K) (pe_op op_sub (pe_ix (ix_seqK K) (pv 9) pe_int (fun _ _ => rfl)) (pe_ix (ix_seqK K) (pv 9) pe_int (fun _ _ => rfl))) (pe_ix (ix_seqK K) (pv 9) pe_int (fun _ _ => rfl))) (pe_ix (ix_seqK K) (pv 9) pe_int (fun _ _ => rfl))) (pv 8) (nomark _)))) (fun _ _ _ _ _ => (pv 9)))
      (pss_one (ps_for PassesOwn.never rfl (pi_seqK K (pv 6)) (pg_name (i := 11) sc_law_tally.nd rfl (Or.inr rfl)) (pss_one (ps_for PassesOwn.never rfl (pi_seqK K (pv 10)) (pg_name (i := 9) sc_law_tally.nd rfl (Or.inr rfl)) (pss_cons (ps_set (i := 12) sc_law_tally.nd rfl (Or.inl rfl) (pe_callB (cr_sumK K rfl) (by rfl) m_sum bt_sum (pa_cons (pe_lc (own := [("rule", 13)]) rfl sc_law_tally.nd (pi_seqK K (pv 3)) (blkOk_by (own := [("rule", 13)]) (N := N_law_tally) (sc := defScope s_law_tally) (by decide +kernel)) (fun _ _ _ _ _ => pg_name (i := 13) sc_law_tally.nd rfl (Or.inl rfl)) (fun _ _ _ _ _ => (pts_one (pt_cmpR (op_eqDK K hu64) (pe_ix (ix_seqK K) (pv 13) pe_int (fun _ _ => rfl)) (pv 11) (nomark _)))) (fun _ _ _ _ _ => (pe_callC C_law_ways (hr.mono (by decide)) rfl pass0 (pa_cons (pv 13) (pa_cons (pv 9) (pa_cons (pv 1) (pa_cons (pv 5) pa_nil))))))) pa_nil)))
      (pss_one (ps_if (pt_cmpR op_gt (pv 12) pe_int (nomark _)) (pss_one (ps_dput hu1 (pv 5) (pe_op (op_addK K) (pe_tup (pa_cons (pv 11) pa_nil)) (pv 9)) (pv 12) rfl)) pss_nil)))))))))
      (pss_one (ps_ret (pv 5))))))))), ?_⟩
    have hri : ∀ r ∈ rs, RuleIs r := fun r hr => (rg_kr (hrg r hr)).1.1
    have a : At Fm.pure B H B H := At.start (Ok.any ex)
    refine qv_unpP a (ed_var rfl hg) fun v2 v3 B1 H1 e1 a1 h2 h3 => ?_
    obtain rfl := dd_int h2
    refine qv_asg (P := DD K (.int ((ts.length : Nat) : Int))) a1 (ed_is (ev_cb (eds_cons (ed_var rfl (ht.up e1)) eds_nil) (rc_len rfl)) (by show PyData.int (((ts.map PyData.str).length : Nat) : Int) = _; rw [List.length_map])) fun v4 B2 H2 e2 a2 h4 => ?_
    obtain rfl := dd_int h4
    refine qd_new a2.j fun na d0 => ?_
    have ord := orderO (edges rs) n n
    refine qd_asg (P := DD K (.list ((orderO (edges rs) n n).map .int))) d0 (ed_F (eds_cons (ed_var rfl (.int _)) (eds_cons (ed_var rfl (h3.up e2)) eds_nil)) ⟨rs, n, rfl, by omega, by omega, fun r hr => (hrg r hr).1⟩ rfl) fun v6 B3 H3 d3 e3 h6 => ?_
    refine qd_asg (P := DD K (.list ((cellsL ts.length).map cellD))) d3 (ed_F (eds_cons (ed_var rfl (.int _)) eds_nil) ⟨ts.length, rfl, by omega⟩ rfl) fun v7 B4 H4 d4 e4 h7 => ?_
    have hin : InR n (orderO (edges rs) n n) := orderO_in n
    have hol : (orderO (edges rs) n n).length ≤ 8 := Nat.le_trans (orderO_n n) hn8
    have hcl : (cellsL ts.length).length ≤ 16777216 := by
      refine Nat.le_trans (flm_le _ fun i => c1_len i (by omega)) ?_
      have : (ts.length + 1) * 68921 ≤ 6 * 68921 := Nat.mul_le_mul_right _ (by omega)
      omega
    have step0 : ∀ Bz Hz (na : Addr) (m : Mp), D1 B2 H2 Bz Hz na m → Step (fun _ => False) B H Bz Hz := fun Bz Hz na m d => a2.st.trans d.st
    refine oq_rng2 (K := K) (lo := 1) (n := ((ts.length : Nat) : Int) + 1) (j := 8) d4.ok (eds_cons ed_int (eds_cons (ed_op (ed_var rfl (.int _)) ed_int rd_add) eds_nil)) (by omega) (fun z σ' B' H' => (∃ o8 o10 o11 o9 o12, σ' = [some vg, some vt, some (.int (n : Nat)), some v3, some (.int ((ts.length : Nat) : Int)), some (.ref na), some v6, some v7, o8, o9, o10, o11, o12, none]) ∧ Ex B4 B' ∧ D1 B2 H2 B' H' na (sizesT ts rs (orderO (edges rs) n n) ts.length z))
      (fun B5 H5 s5 _ => ⟨⟨_, _, _, _, _, rfl⟩, s5.bb, d4.pass s5⟩) (fun Bb z σ' B5 H5 eb hz e5 hi => ?_) (fun σ' B5 H5 e5 hi => ?_)
    · obtain ⟨⟨o8, o10, o11, o9, o12, rfl⟩, eB, d5⟩ := hi
      have hzn : z + 1 ≤ ts.length := by omega
      have e1z : (1 : Int) + (z : Int) = (z : Int) + 1 := by omega
      rw [e1z]
      refine qd_asg (P := DD K (.list ((nowL ts.length ((z : Int) + 1)).map cellD))) d5 (ed_is (ed_lcD (j := 9) (vsN := [9]) (fun d => decide (sizeC (ksOf d) = (z : Int) + 1)) (fun d => d) (ev_seqL (ed_var rfl (h7.up eB))) (by rw [List.length_map]; exact hcl) (fun _ => rfl) (fun d u B6 hm e6 hd => ?_) (fun d u B6 hm _ e6 hd => ed_var rfl hd)) ?_) fun v10 B6 H6 d6 e6 h10 => ?_
      · obtain ⟨c, hc, rfl⟩ := List.mem_map.mp hm
        obtain ⟨i, j, g, l, rfl, _⟩ := cells_cv hc
        have ix : ∀ (B7 : Hp) (p : Nat) (x : Int), Ex B6 B7 → ([.int i, .int j, .int g, .int l] : List PyData)[p]? = some (.int x) → ED Fm.pure K (tOp (rIx K) (tVar 9) (tC (.int (p : Nat)))) ((wipe [some vg, some vt, some (.int (n : Nat)), some v3, some (.int ((ts.length : Nat) : Int)), some (.ref na), some v6, some v7, some (.int ((z : Int) + 1)), o9, o10, o11, o12, none] [9]).set 9 (some u)) B7 (.int x) := fun B7 p x e7 hx => ed_op (ed_var rfl (show Dd K B7 u (.tuple [.int i, .int j, .int g, .int l]) from hd.up e7)) ed_int (rd_ixT (atI_nat (j := p) hx))
        exact et_is (et_cmp (K := K) (ed_op (ed_op (ed_op (ed_op (ix _ 1 j (Ex.refl _) rfl) (ix _ 0 i (Ex.refl _) rfl) rd_sub) (ix _ 3 l (Ex.refl _) rfl) rd_add) (ix _ 2 g (Ex.refl _) rfl) rd_sub) (ed_var rfl (.int _)) (rd_eqD rfl rfl))) (by
          rw [eqv_int]
          show ((j - i + l - g) == (z : Int) + 1) = decide ((j - i + l - g) = (z : Int) + 1)
          rw [Bool.eq_iff_iff, beq_iff_eq, decide_eq_true_eq])
      · show PyData.list (List.map (fun d => d) _) = _
        rw [List.map_id']
        unfold nowL
        rw [List.filter_map]
        congr 2
        refine List.filter_congr fun c hc => ?_
        obtain ⟨i, j, g, l, rfl, _⟩ := cells_cv hc
        rfl
      have eBz := eB.trans e6
      refine os_forD (K := K) (ds := (orderO (edges rs) n n).map .int) d6.ok (ev_seqL (ed_var rfl (h6.up (e4.trans eBz)))) (fun a σ' B' H' => (∃ o9 o11 o12, σ' = [some vg, some vt, some (.int (n : Nat)), some v3, some (.int ((ts.length : Nat) : Int)), some (.ref na), some v6, some v7, some (.int ((z : Int) + 1)), o9, some v10, o11, o12, none]) ∧ Ex B6 B' ∧ D1 B2 H2 B' H' na (kindsT ts rs (orderO (edges rs) n n) (nowL ts.length ((z : Int) + 1)) (sizesT ts rs (orderO (edges rs) n n) ts.length z) a)) (fun a σ' B' H' hj => hj.2.2.st.bh)
        (fun B7 H7 s7 _ => ⟨⟨_, _, _, rfl⟩, s7.bb, d6.pass s7⟩) (fun Bc a d vk σ' B7 H7 ha ec e7 hk hj => ?_) (fun σ' B7 H7 e7 hj => ?_)
      · obtain ⟨⟨o9', o11', o12', rfl⟩, eC, d7⟩ := hj
        rw [List.getElem?_map] at ha
        obtain ⟨kd, hkd, rfl⟩ := Option.map_eq_some_iff.mp ha
        obtain rfl := dd_int hk
        have hkin := hin kd (List.mem_of_getElem? hkd)
        have hal : a < (orderO (edges rs) n n).length := (List.getElem?_eq_some_iff.mp hkd).1
        have tbA := tb_kinds (ts := ts) (tb_sizes (ts := ts) hri (by omega) hin (by omega) z) hri (by omega) hin (sz := (z : Int) + 1) (by omega) (n := ts.length) (by omega) a (by omega)
        dsimp only [gName]
        refine os_forD (K := K) (ds := (nowL ts.length ((z : Int) + 1)).map cellD) d7.ok (ev_seqL (ed_var rfl (h10.up eC))) (fun b σ' B' H' => (∃ o9 o12, σ' = [some vg, some vt, some (.int (n : Nat)), some v3, some (.int ((ts.length : Nat) : Int)), some (.ref na), some v6, some v7, some (.int ((z : Int) + 1)), o9, some v10, some (.int kd), o12, none]) ∧ Ex B7 B' ∧ D1 B2 H2 B' H' na (rowT ts rs kd (nowL ts.length ((z : Int) + 1)) (kindsT ts rs (orderO (edges rs) n n) (nowL ts.length ((z : Int) + 1)) (sizesT ts rs (orderO (edges rs) n n) ts.length z) a) b)) (fun b σ' B' H' hj => hj.2.2.st.bh)
          (fun B8 H8 s8 _ => ⟨⟨_, _, rfl⟩, s8.bb, d7.pass s8⟩) (fun Bd b dc vc σ' B8 H8 hb ed e8 hc hj => ?_) (fun σ' B8 H8 e8 hj => ?_)
        · obtain ⟨⟨o9'', o12'', rfl⟩, eD, d8⟩ := hj
          rw [List.getElem?_map] at hb
          obtain ⟨c, hcb, rfl⟩ := Option.map_eq_some_iff.mp hb
          have hcm := List.mem_of_getElem? hcb
          have hcv := (now_cv hcm).1
          have hbl : b < (nowL ts.length ((z : Int) + 1)).length := (List.getElem?_eq_some_iff.mp hcb).1
          have tbB := tb_row (ts := ts) tbA hri (by omega) hkin (sz := (z : Int) + 1) (by omega) (by omega) b (by omega)
          have hq : (orderO (edges rs) n n).length * preN ts.length z + a * (nowL ts.length ((z : Int) + 1)).length + b ≤ 1008 := by
            have h1 : preN ts.length (z + 1) ≤ 126 := pre_small _ hlen _ hzn
            have h2 : (orderO (edges rs) n n).length * preN ts.length (z + 1) ≤ 8 * 126 := Nat.mul_le_mul hol h1
            have h3 : (orderO (edges rs) n n).length * preN ts.length (z + 1) = (orderO (edges rs) n n).length * preN ts.length z + (orderO (edges rs) n n).length * (nowL ts.length ((z : Int) + 1)).length := by
              show _ * (preN ts.length z + _) = _
              rw [Nat.mul_add]
            have h4 : (a + 1) * (nowL ts.length ((z : Int) + 1)).length ≤ (orderO (edges rs) n n).length * (nowL ts.length ((z : Int) + 1)).length := Nat.mul_le_mul_right _ hal
            rw [Nat.succ_mul] at h4
            omega
          generalize hM : rowT ts rs kd (nowL ts.length ((z : Int) + 1)) (kindsT ts rs (orderO (edges rs) n n) (nowL ts.length ((z : Int) + 1)) (sizesT ts rs (orderO (edges rs) n n) ts.length z) a) b = m at d8 tbB
          have hbig := tbB.big hlen hq
          have eAll : Ex B4 B8 := eBz.trans (eC.trans eD)
          have eT : Ex B B8 := (e1.trans e2).trans ((e3.trans e4).trans eAll)
          have eR : Ex B1 B8 := e2.trans ((e3.trans e4).trans eAll)
          have eU : Ex B8 (upd B8 na (.dT (toK m))) := d8.shut.1
          have hr3 : Dd K B8 v3 (.tuple rs) := h3.up eR
          have hrz : rs.length ≤ 16777216 := by omega
          dsimp only [gName]
          refine qd_look (W := fun v => v = .int (numM ts m rs kd c)) d8 (EV.imp (P := DD K (.int (numM ts m rs kd c))) (ed_is (ev_cb (eds_cons (ed_is (ed_lcD (j := 13) (vsN := [13]) (fun r => decide (kdOf r = kd)) (fun r => .int (waysC ts m r c)) (ev_seqT (ed_var rfl (hr3.up eU))) hrz (fun _ => rfl) (fun r u B9 hm e9 hd => ?_) (fun r u B9 hm _ e9 hd => ?_)) (congrArg PyData.list lc_rules)) eds_nil) rc_sum) rfl) fun v _ _ g => dd_int g) fun v H9 d9 ev => ?_
          · have hkr := rg_kr (hrg r hm)
            exact et_is (et_cmp (K := K) (ed_op (ed_kd (i := 13) rfl hd hkr.1) (ed_var rfl (.int _)) (rd_eqD rfl rfl))) (by rw [eqv_int, Bool.eq_iff_iff, beq_iff_eq, decide_eq_true_eq])
          · exact ed_ways (i1 := 13) (i2 := 9) (i3 := 1) (t4 := tVar 5) rfl rfl rfl hd (hc.up (eU.trans e9)) (ht.up ((eT.trans eU).trans e9)) (Dx.ev_var (P := DicV m) rfl upc_dic (upc_dic _ _ _ e9 d8.shut.2.2)) (hri r hm) hst (by omega) hbig (by omega) hcv
          · subst ev
            refine sd_ifB (b := decide (0 < numM ts m rs kd c)) d9 (et_is (et_cmp (K := K) (ed_op (ed_var rfl (.int _)) ed_int rd_gt)) rfl) (fun hp B10 H10 d10 e10 => ?_) (fun hp B10 H10 d10 e10 => ?_)
            · have hp' := of_decide_eq_true hp
              refine sd_put (n := numM ts m rs kd c) (k := kd :: c) d10 (by rfl) ((ed_var (K := K) (i := 12) rfl (.int _)).imp fun v _ _ g => dd_int g) (ev_keyC hK (ed_var rfl (.int _)) (i := 9) rfl (hc.up e10) hcv) tbB.nd (by
                have := keys_len tbB.nd tbB.kv hn8 hlen
                omega) fun B11 H11 d11 e11 => ?_
              refine ⟨B11, e8.trans (e10.trans e11), ⟨_, _, rfl⟩, eD.trans (e10.trans e11), ?_⟩
              rw [rowT_succ hcb, hM]
              unfold stepT
              rw [if_pos hp']
              exact d11
            · have hp' := of_decide_eq_false hp
              refine ⟨B10, e8.trans e10, ⟨_, _, rfl⟩, eD.trans e10, ?_⟩
              rw [rowT_succ hcb, hM]
              unfold stepT
              rw [if_neg hp']
              exact d10
        · obtain ⟨⟨o9'', o12'', rfl⟩, eD, d8⟩ := hj
          rw [List.length_map] at d8
          refine ⟨B8, e7.trans eD, ⟨_, _, _, rfl⟩, eC.trans eD, ?_⟩
          rw [kindsT_succ hkd]
          exact d8
      · obtain ⟨⟨o9', o11', o12', rfl⟩, eC, d7⟩ := hj
        rw [List.length_map] at d7
        exact ⟨B7, e5.trans (e6.trans eC), ⟨_, _, _, _, _, rfl⟩, eBz.trans eC, d7⟩
    · obtain ⟨⟨o8, o10, o11, o9, o12, rfl⟩, eB, d5⟩ := hi
      rw [show (((ts.length : Nat) : Int) + 1 - 1).toNat = ts.length by omega] at d5
      obtain ⟨s6, g6⟩ := d5.data
      exact ⟨.ref na, rfl, q _ _ _ (a2.st.trans s6) g6⟩
end
end K12

namespace K12
open PySem PySem.Spec PyProof.Rows L2 Evl Ex Dx StX
open PySem.PyData (strOk)
section
variable {P : Program} {w : World} {K : PySem.W.Frag} {mg : Str → Option Value} {base : Heap} {f : Addr} {fd : FuncData}


theorem bt_tuple2 : True := trivial
/-! ### _law_all_items -/
def spAI (K : PySem.W.Frag) : Sp := fun vs H Q _ => ∃ (B : Hp) (vg vt : V) (n : Nat) (rs : List PyData) (ts : List Str), vs = [vg, vt] ∧ Ex B H ∧ Dd K B vg (.tuple [.int (n : Nat), .tuple rs]) ∧ rs.length ≤ 9 ∧ (∀ r ∈ rs, RG n r) ∧ n ≤ 8 ∧ Dd K B vt (.tuple (ts.map .str)) ∧ (∀ x ∈ ts, SeqAt.shaped (.str x) = true) ∧ ts.length ≤ 5 ∧
  ∀ v' B' H' (zs : List (List Int)), Step (fun _ => False) B H B' H' → zs.Perm ((tallyM ts rs n).map (·.1)) → Asc zs → Dd K B' v' (.tuple (zs.map rowD)) → Q v' H'
theorem tally_tb {n : Nat} {rs : List PyData} {ts : List Str} (hrg : ∀ r ∈ rs, RG n r) (hl : rs.length ≤ 9) (ht : ts.length ≤ 5) : ∃ q, TB n ts.length q (tallyM ts rs n) :=
  ⟨_, tb_sizes (fun r hr => (rg_kr (hrg r hr)).1.1) (by omega) (orderO_in n) (by omega) ts.length⟩
theorem kv_len {nk n : Nat} {k : List Int} (h : KV nk n k) : k.length = 5 := by
  obtain ⟨a, b, c, d, e, rfl, _⟩ := h
  rfl
/-- a list known up to something, made a tuple -/
theorem ev_tupE {F : Fm} {σ : L2.St} {B : Hp} {te : TE} {R : List PyData → Prop} (h : EV F te σ B (fun v B' => ∃ ds, R ds ∧ Dd K B' v (.list ds))) : EV F (tCB (fun xs H Q => ∃ p ys, xs = [.ref p] ∧ ((SqL K H p ys ∧ ∀ l, H l = none → Q (.ref l) (upd H l (.tup ys))) ∨ (SqT K H p ys ∧ Q (.ref p) H))) (tCons te tNil)) σ B (fun v B' => ∃ ds, R ds ∧ Dd K B' v (.tuple ds)) := fun B1 e0 H k Q q => h B1 e0 H k _ fun v B2 H2 s2 k2 ⟨ds, r, g⟩ =>
  rc_tupL (ds := ds) B2 (Ex.refl B2) H2 [v] k2 (.cons g .nil) Q fun w B3 H3 s3 k3 gw => q w B3 H3 (s2.trans s3) k3 ⟨ds, r, gw⟩

abbrev s_law_all_items : Stmt := topS 59
abbrev N_law_all_items : List Str := ["grammar", "text"]
theorem sc_law_all_items : FnScope N_law_all_items ["grammar", "text"] (defScope s_law_all_items) := ⟨rfl, rfl, rfl, by decide +kernel, rfl, by decide +kernel, by decide +kernel⟩
theorem ok_law_all_items (F : Fun K "_law_all_items" "_law_all_items" s_law_all_items f fd) (T : TC K mg) (m_sorted : mg "sorted" = none) (C_law_tally : Callee P w K mg base "_law_tally" 3 ["grammar", "text"] (spTY K)) : FnOk P w K mg base CX0 4 f fd ["grammar", "text"] (spAI K) := by
  refine F.ok sc_law_all_items (fun vs H Q E h => ?_) (fun cdv A outer s H vs Q E hr h => ?_)
  · obtain ⟨B, vg, vt, n, rs, ts, rfl, _⟩ := h
    rfl
  · obtain ⟨B, vg, vt, n, rs, ts, rfl, ex, hg, hl9, hrg, hn8, ht, hst, hlen, q⟩ := h
    refine ⟨_, (pss_one (ps_ret (pe_callTy (call_tuple_ofK K) (by rfl) T.m_tuple bt_tuple (pa_cons (pe_callB (cr_sortDTK K rfl) (by rfl) m_sorted bt_sorted (pa_cons (pe_callC C_law_tally (hr.mono (by decide)) rfl pass0 (pa_cons (pv 0) (pa_cons (pv 1) pa_nil))) pa_nil)) pa_nil)))), ?_⟩
    have a : At Fm.pure B H B H := At.start (Ok.any ex)
    obtain ⟨tq, tb⟩ := tally_tb hrg hl9 hlen
    have hm := keys_len tb.nd tb.kv hn8 hlen
    have ht1 : EV Fm.pure (tCall (spTY K) [] E0 (tCons (tVar 0) (tCons (tVar 1) tNil))) [some vg, some vt] B (DicV (tallyM ts rs n)) := ev_call (evs_cons upc_dd (ed_var rfl hg) (evs_cons upc_dd (ed_var rfl ht) evs_nil)) fun B4 e6 H4 us jj hu Q q => by
      obtain ⟨w1, _, rfl, d1, w2, _, rfl, d2, rfl⟩ := hu
      exact ⟨B4, w1, w2, n, rs, ts, rfl, jj.e, d1, hl9, hrg, hn8, d2, hst, hlen, fun v' B' H' s g => q _ B' H' s.pure (jj.pure s) g⟩
    refine sv_ret (P := fun v B' => ∃ ds, (∃ zs : List (List Int), ds = zs.map rowD ∧ zs.Perm ((tallyM ts rs n).map (·.1)) ∧ Asc zs) ∧ Dd K B' v (.tuple ds)) a (ev_tupE (EV.imp (ev_sortD (n := 5) ht1 (fun p hp => kv_len (tb.kv p hp)) (by decide) (by omega)) fun v B1 _ ⟨zs, p1, p2, g⟩ => ⟨_, ⟨zs, rfl, p1, p2⟩, g⟩)) fun v1 B2 H2 e2 a2 h2 => ?_
    obtain ⟨ds, ⟨zs, rfl, p1, p2⟩, g⟩ := h2
    exact q _ B2 H2 zs a2.st p1 p2 g

/-! ### _law_bar_text -/
def cleanL (ts : List Str) (m : Mp) (c : List Int) (r : PyData) : Bool := (lkI m (kdOf r :: c)).isSome || !decide (0 < waysC ts m r c)
def barL (ts : List Str) (rs : List PyData) (n : Int) (d : PyData) : Bool := match d with
  | .tuple xs => xs.all (itemD · n (ts.length : Nat)) && ((List.range (xs.length - 1)).all (ltAt xs) && (!xs.any (toldD (ts.length : Nat)) && (cellsL ts.length).all fun c => rs.all (cleanL ts (rowM ksOf 1 xs) c)))
  | _ => false
def spBT (K : PySem.W.Frag) : Sp := fun vs H Q _ => ∃ (B : Hp) (vg vt v : V) (n : Nat) (rs : List PyData) (ts : List Str) (d : PyData), vs = [vg, vt, v] ∧ Ex B H ∧ Dd K B vg (.tuple [.int (n : Nat), .tuple rs]) ∧ rs.length ≤ 9 ∧ (∀ r ∈ rs, RG n r) ∧ n ≤ 8 ∧ Dd K B vt (.tuple (ts.map .str)) ∧ (∀ x ∈ ts, SeqAt.shaped (.str x) = true) ∧ ts.length ≤ 5 ∧ Dd K B v d ∧ Sm 60 d ∧
  ∀ B' H', Step (fun _ => False) B H B' H' → Q (.bl (barL ts rs (n : Nat) d)) H'
theorem big_row {kf : PyData → List Int} {ds : List PyData} : Big 1 (rowM kf 1 ds) := fun k => by
  rcases atG_row (kf := kf) (ds := ds) k with h | h <;> rw [h] <;> decide
theorem rowM_snoc {kf : PyData → List Int} {n : Int} {xs : List PyData} {i : Nat} {x : PyData} (h : xs[i]? = some x) (hn : (xs.map kf).Nodup) : ptI (rowM kf n (xs.take i)) (kf x) n = rowM kf n (xs.take (i + 1)) := by
  have hno : lkI (rowM kf n (xs.take i)) (kf x) = none := lkI_none.mpr fun p hp => by
    obtain ⟨d', hd', rfl⟩ := List.mem_map.mp hp
    obtain ⟨j', hj', e'⟩ := List.getElem_of_mem hd'
    have hi : i < xs.length := (List.getElem?_eq_some_iff.mp h).1
    rw [List.length_take] at hj'
    intro ee
    have h1 : (xs.map kf)[j']? = some (kf d') := by
      rw [List.getElem?_map, ← e', List.getElem_take, List.getElem?_eq_getElem (by omega)]
      rfl
    have h2 : (xs.map kf)[i]? = some (kf x) := by rw [List.getElem?_map, h]; rfl
    have h3 := (List.getElem?_inj (by rw [List.length_map]; omega) hn).mp ((h1.trans (congrArg some ee)).trans h2.symm)
    omega
  rw [pt_new hno]
  unfold rowM
  rw [take_snoc h, List.map_append]
  rfl
theorem rowM_nd {kf : PyData → List Int} {n : Int} {xs : List PyData} (hn : (xs.map kf).Nodup) (i : Nat) : Nd (rowM kf n (xs.take i)) := by
  unfold Nd rowM
  rw [List.map_map]
  have : (xs.take i).map ((fun x : List Int × Int => x.1) ∘ fun d => (kf d, n)) = (xs.map kf).take i := by rw [List.map_take]; rfl
  rw [this]
  exact hn.sublist (List.take_sublist _ _)
theorem neE {α : Type} (l : List α) (p : α → Bool) : (!(l.filter p).isEmpty) = l.any p := filter_any l p
theorem ge_any {xs : List PyData} : ((List.range (((xs.length : Nat) : Int) - 1).toNat).any fun i => geI (ksOf (xs.getD i .none)) (ksOf (xs.getD (i + 1) .none))) = !((List.range (xs.length - 1)).all (ltAt xs)) := by
  rw [show (((xs.length : Nat) : Int) - 1).toNat = xs.length - 1 by omega, List.not_all_eq_any_not]
  congr 1
  funext i
  exact ge_lt _ _

abbrev s_law_bar_text : Stmt := topS 62
abbrev N_law_bar_text : List Str := ["grammar", "text", "value", "kinds", "rules", "n", "one", "there", "cell", "rule", "k"]
theorem sc_law_bar_text : FnScope N_law_bar_text ["grammar", "text", "value"] (defScope s_law_bar_text) := ⟨rfl, rfl, rfl, by decide +kernel, rfl, by decide +kernel, by decide +kernel⟩
theorem ok_law_bar_text (F : Fun K "_law_bar_text" "_law_bar_text" s_law_bar_text f fd) (T : TC K mg) (hK : noInts K = true) (C_law_is_item : Callee P w K mg base "_law_is_item" 3 ["value", "kinds", "n"] (spF K preLI fItem)) (C_law_is_told : Callee P w K mg base "_law_is_told" 1 ["value", "n"] (spF K preTold fTold)) (C_law_sorted_cells : Callee P w K mg base "_law_sorted_cells" 1 ["n"] (spF K preCl fCells)) (C_law_ways : Callee P w K mg base "_law_ways" 2 ["rule", "cell", "text", "found"] (spLW K)) : FnOk P w K mg base CX0 4 f fd ["grammar", "text", "value"] (spBT K) := by
  refine F.ok sc_law_bar_text (fun vs H Q E h => ?_) (fun cdv A outer s H vs Q E hr h => ?_)
  · obtain ⟨B, vg, vt, v, n, rs, ts, d, rfl, _⟩ := h
    rfl
  · obtain ⟨B, vg, vt, v, n, rs, ts, d, rfl, ex, hg, hl9, hrg, hn8, ht, hst, hlen, hv, hsm, q⟩ := h
    have hu64 : (A.deeper (envOfC "_law_bar_text" (defScope s_law_bar_text) s.heap.objs.size f cdv)).units + 64 < cLine := hr.units
    have hu1 : (A.deeper (envOfC "_law_bar_text" (defScope s_law_bar_text) s.heap.objs.size f cdv)).units + 1 < cLine := by omega
    have hu0 : (A.deeper (envOfC "_law_bar_text" (defScope s_law_bar_text) s.heap.objs.size f cdv)).units < cLine := by omega
    refine ⟨_, (pss_cons (ps_asg (pv 0) (pg_tup (by rfl) (pgs_cons (pg_name (i := 3) sc_law_bar_text.nd rfl (Or.inr rfl)) (pgs_cons (pg_name (i := 4) sc_law_bar_text.nd rfl (Or.inl rfl)) pgs_nil))))
      (pss_cons (ps_set (i := 5) sc_law_bar_text.nd rfl (Or.inr rfl) (pe_callB (call_lenK K) (by rfl) T.m_len bt_len (pa_cons (pv 1) pa_nil)))
      (pss_cons (ps_if (PW.pt (pw_or (pt_not (pt_val (pe_callB (call_isiK1 K) (by rfl) T.m_isinstance bt_isinstance (pa_cons (pv 2) (pa_cons (pe_bltn (v := .ty "tuple") (by rfl) T.m_tuple bt_tuple rfl) pa_nil))))) (pw_or1 (pt_cmpR (op_neDK K hu64) (pe_lc (own := [("one", 6)]) rfl sc_law_bar_text.nd (pi_seqK K (pv 2)) (blkOk_by (own := [("one", 6)]) (N := N_law_bar_text) (sc := defScope s_law_bar_text) (by decide +kernel)) (fun _ _ _ _ _ => pg_name (i := 6) sc_law_bar_text.nd rfl (Or.inl rfl)) (fun _ _ _ _ _ => (pts_one (pt_not (pt_val (pe_callC C_law_is_item (hr.mono (by decide)) rfl pass0 (pa_cons (pv 6) (pa_cons (pv 3) (pa_cons (pv 5) pa_nil)))))))) (fun _ _ _ _ _ => (pv 6))) (pe_lst pa_nil) (nomark _))))) (pss_one (ps_ret pe_bl)) pss_nil)
      (pss_cons (ps_if (PW.pt (pw_or (pt_cmpR (op_neDK K hu64) (pe_lc (own := [("k", 10)]) rfl sc_law_bar_text.nd (pi_range2 rfl T.m_range (pa_cons pe_int (pa_cons (pe_callB (call_lenK K) (by rfl) T.m_len bt_len (pa_cons (pv 2) pa_nil)) pa_nil))) (blkOk_by (own := [("k", 10)]) (N := N_law_bar_text) (sc := defScope s_law_bar_text) (by decide +kernel)) (fun _ _ _ _ _ => pg_name (i := 10) sc_law_bar_text.nd rfl (Or.inl rfl)) (fun _ _ _ _ _ => (pts_one (pt_cmpR (op_geTK K hu0) (pe_ix (ix_seqK K) (pv 2) (pe_op op_sub (pv 10) pe_int) (fun _ _ => rfl)) (pe_ix (ix_seqK K) (pv 2) (pv 10) (fun _ _ => rfl)) (nomark _)))) (fun _ _ _ _ _ => (pv 10))) (pe_lst pa_nil) (nomark _)) (pw_or1 (pt_val (pe_callC C_law_is_told (hr.mono (by decide)) rfl pass0 (pa_cons (pv 2) (pa_cons (pv 5) pa_nil))))))) (pss_one (ps_ret pe_bl)) pss_nil)
      (pss_cons (ps_set (i := 7) sc_law_bar_text.nd rfl (Or.inl rfl) pe_dnewT)
      (pss_cons (ps_for PassesOwn.never rfl (pi_seqK K (pv 2)) (pg_name (i := 6) sc_law_bar_text.nd rfl (Or.inl rfl)) (pss_one (ps_dput hu1 (pv 7) (pv 6) pe_int rfl)))
      (pss_cons (ps_for PassesOwn.never rfl (pi_seqK K (pe_callC C_law_sorted_cells (hr.mono (by decide)) rfl pass0 (pa_cons (pv 5) pa_nil))) (pg_name (i := 8) sc_law_bar_text.nd rfl (Or.inl rfl)) (pss_one (ps_for PassesOwn.never rfl (pi_seqK K (pv 4)) (pg_name (i := 9) sc_law_bar_text.nd rfl (Or.inl rfl)) (pss_one (ps_if (PW.pt (pw_and (pt_cmp (pc_dnotin hu1 (pe_op (op_addK K) (pe_tup (pa_cons (pe_ix (ix_seqK K) (pv 9) pe_int (fun _ _ => rfl)) pa_nil)) (pv 8)) (pv 7))) (pw_and1 (pt_cmpR op_gt (pe_callC C_law_ways (hr.mono (by decide)) rfl pass0 (pa_cons (pv 9) (pa_cons (pv 8) (pa_cons (pv 1) (pa_cons (pv 7) pa_nil))))) pe_int (nomark _))))) (pss_one (ps_ret pe_bl)) pss_nil)))))
      (pss_one (ps_ret pe_bl))))))))), ?_⟩
    have a : At Fm.pure B H B H := At.start (Ok.any ex)
    have fin : ∀ b v1 B1 H1, At Fm.pure B H B1 H1 → DD K (.bool b) v1 B1 → b = barL ts rs (n : Nat) d → Q v1 H1 := fun b v1 B1 H1 a1 h1 en => by
      obtain rfl := dd_bl h1
      rw [en]
      exact q _ _ a1.st
    refine qv_unpP a (ed_var rfl hg) fun v3 v4 B1 H1 e1 a1 h3 h4 => ?_
    obtain rfl := dd_int h3
    refine qv_asg (P := DD K (.int ((ts.length : Nat) : Int))) a1 (ed_is (ev_cb (eds_cons (ed_var rfl (ht.up e1)) eds_nil) (rc_len rfl)) (by show PyData.int (((ts.map PyData.str).length : Nat) : Int) = _; rw [List.length_map])) fun v5 B2 H2 e2 a2 h5 => ?_
    obtain rfl := dd_int h5
    have e12 := e1.trans e2
    by_cases htup : isTupD d = true
    case neg =>
      have hf : isTupD d = false := by simpa using htup
      refine qv_when (b := true) a2 (et_is (et_or (b := true) (c := true) (et_is (et_not (et_val (ed_isi (ed_var rfl (hv.up e12)) (kit_tup _)))) (by rw [hf]; rfl)) fun h => nomatch h) rfl) (fun _ B3 H3 e3 a3 => ?_) (fun h => nomatch h)
      refine sv_ret (P := DD K (.bool false)) a3 ed_bl fun v1 B4 H4 e4 a4 g4 => fin _ _ _ _ a4 g4 ?_
      cases d <;> first | rfl | cases hf
    obtain ⟨xs, rfl⟩ := tup_is htup
    have hz : xs.length ≤ 16777216 := by
      obtain ⟨p, us, _, _, l1, g1⟩ := dd_tup hv
      rw [← g1.len, ← sizeLine_eq]
      exact l1
    have hms : ∀ x ∈ xs, Sm 59 x := fun x hx => hsm.memT hx
    refine qv_when (b := !(xs.all (itemD · (n : Nat) (ts.length : Nat)))) a2 (et_is (et_or (b := false) (c := !(xs.all (itemD · (n : Nat) (ts.length : Nat)))) (et_not (et_val (ed_isi (ed_var rfl (hv.up e12)) (kit_tup _)))) fun _ => et_is (et_cmp (K := K) (ed_op (ed_lcD (j := 6) (vsN := [6]) (fun x => !itemD x (n : Nat) (ts.length : Nat)) (fun x => x) (ev_seqT (ed_var rfl (hv.up e12))) hz (fun _ => rfl) (fun x u B3 hx e3 hu => et_not (et_val (ed_F (eds_cons (ed_var rfl hu) (eds_cons (ed_var rfl (.int _)) (eds_cons (ed_var rfl (.int _)) eds_nil))) ⟨x, _, _, rfl, (hms x hx).le (by decide), by omega, by omega⟩ rfl))) (fun x u B3 hx _ e3 hu => ed_var rfl hu)) (ed_lst eds_nil) (rd_neD (Sm.sh (sm_filter (n := 59) hms)) rfl))) (by
        rw [eqv_nil, List.map_id', neE, ← List.not_all_eq_any_not])) (Bool.false_or _)) (fun hb B3 H3 e3 a3 => ?_) (fun hb B3 H3 e3 a3 => ?_)
    · refine sv_ret (P := DD K (.bool false)) a3 ed_bl fun v1 B4 H4 e4 a4 g4 => fin _ _ _ _ a4 g4 ?_
      have hb' : xs.all (itemD · (n : Nat) (ts.length : Nat)) = false := by simpa using hb
      show false = (xs.all (itemD · (n : Nat) (ts.length : Nat)) && _)
      rw [hb', Bool.false_and]
    have hall : xs.all (itemD · (n : Nat) (ts.length : Nat)) = true := by simpa using hb
    have hit := List.all_eq_true.mp hall
    have e13 := e12.trans e3
    have atX : ∀ (B4 : Hp) (i : Nat), i < xs.length → ∀ (ti : TE) (σ : L2.St), Ex B B4 → σ[2]? = some (some v) → ED Fm.pure K ti σ B4 (.int (i : Nat)) → ED Fm.pure K (tOp (rIx K) (tVar 2) ti) σ B4 (.tuple ((ksOf (xs.getD i .none)).map .int)) := fun B4 i hi ti σ e4 hσ hti => by
      have hx : xs[i]? = some (xs.getD i .none) := by rw [List.getD_eq_getElem?_getD, List.getElem?_eq_getElem hi]; rfl
      have := item_ints (hit _ (List.mem_of_getElem? hx))
      rw [← this]
      exact ed_op (ed_var hσ (hv.up e4)) hti (rd_ixT (atI_nat (j := i) hx))
    refine qv_when (b := !((List.range (xs.length - 1)).all (ltAt xs)) || xs.any (toldD (ts.length : Nat))) a3 (et_or (et_is (et_cmp (K := K) (ed_op (ed_lcR2 (j := 10) (vsN := [10]) (lo := 1) (n := ((xs.length : Nat) : Int)) (fun i => geI (ksOf (xs.getD i .none)) (ksOf (xs.getD (i + 1) .none))) (fun i => .int (1 + (i : Int))) (eds_cons ed_int (eds_cons (ev_cb (eds_cons (ed_var rfl (hv.up e13)) eds_nil) (rc_len rfl)) eds_nil)) (by omega) (fun _ => rfl) (fun i B4 hi e4 => ?_) (fun i B4 hi _ e4 => ed_var rfl (.int _))) (ed_lst eds_nil) (rd_neD (Sm.sh (sm_lst (n := 59) fun x hx => by
        obtain ⟨i, _, rfl⟩ := List.mem_map.mp hx
        exact sm_int)) rfl))) (by
        rw [eqv_nil, List.isEmpty_map, neE, ge_any])) fun _ => et_val (K := K) (ed_F (eds_cons (ed_var rfl (hv.up e13)) (eds_cons (ed_var rfl (.int _)) eds_nil)) ⟨xs, _, _, _, rfl, hit⟩ rfl)) (fun hb2 B4 H4 e4 a4 => ?_) (fun hb2 B4 H4 e4 a4 => ?_)
    · have hi1 : i + 1 < xs.length := by omega
      exact et_cmp (K := K) (ed_op (atX B4 i (by omega) _ _ (e13.trans e4) rfl (ed_is (ed_op (ed_var rfl (.int _)) ed_int rd_sub) (by congr 1; omega))) (atX B4 (i + 1) hi1 _ _ (e13.trans e4) rfl (ed_is (ed_var rfl (.int _)) (by congr 1; omega))) rd_geT)
    · refine sv_ret (P := DD K (.bool false)) a4 ed_bl fun v1 B5 H5 e5 a5 g5 => fin _ _ _ _ a5 g5 ?_
      show false = (xs.all (itemD · (n : Nat) (ts.length : Nat)) && ((List.range (xs.length - 1)).all (ltAt xs) && (!xs.any (toldD (ts.length : Nat)) && _)))
      rw [hall, Bool.true_and]
      rw [Bool.or_eq_true] at hb2
      rcases hb2 with hb2 | hb2
      · have h0 : (List.range (xs.length - 1)).all (ltAt xs) = false := by simpa using hb2
        rw [h0, Bool.false_and]
      · rw [hb2]
        cases (List.range (xs.length - 1)).all (ltAt xs) <;> rfl
    rw [Bool.or_eq_false_iff] at hb2
    have hasc : (List.range (xs.length - 1)).all (ltAt xs) = true := by simpa using hb2.1
    have htold := hb2.2
    have hnd := rows_nodup hasc
    have e14 := e13.trans e4
    refine wq_dict (ow_nil a4.j) fun na w0 => ?_
    refine oq_forD (K := K) (g := gName 6) (ds := xs) w0.k (ev_seqT (ed_var rfl (hv.up e14))) (fun i σ' B' H' => (∃ o6, σ' = [some vg, some vt, some v, some (.int (n : Nat)), some v4, some (.int ((ts.length : Nat) : Int)), o6, some (.ref na), none, none, none]) ∧ Ex B4 B' ∧ Ow Fm.pure B4 H4 B' H' [(na, .dT (toK (rowM ksOf 1 (xs.take i))))]) (fun i σ' B' H' hj => hj.2.2.k.e)
      (fun B5 H5 s5 k5 => ⟨⟨_, rfl⟩, s5.bb, w0.pass s5 k5⟩) (fun Bb i x vx σ' B5 H5 hx eb e5 hdx hj => ?_) (fun σ' B5 H5 e5 hj => ?_)
    · obtain ⟨⟨o6, rfl⟩, eB, w5⟩ := hj
      have hxm := List.mem_of_getElem? hx
      dsimp only [gName]
      refine ws_put (n := 1) (k := ksOf x) w5 (by rfl) ((ed_int (K := K) (i := 1)).imp fun v _ _ g => dd_int g) (EV.imp (P := DD K x) (ed_var (i := 6) rfl hdx) fun w Bw _ g => key_of hK (k := ksOf x) (by
        obtain ⟨a, b, c, e, f, rfl, _⟩ := item5 (hit x hxm)
        exact fun z => nomatch z) (by rw [← item_ints (hit x hxm)]; exact g)) (rowM_nd hnd i) (by
        have : i < xs.length := (List.getElem?_eq_some_iff.mp hx).1
        show (List.map _ (xs.take i)).length < _
        rw [List.length_map, List.length_take]
        omega) fun B6 H6 w6 e6 => ?_
      refine ⟨B6, e5.trans e6, ⟨_, rfl⟩, eB.trans e6, ?_⟩
      rw [← rowM_snoc hx hnd]
      exact w6
    obtain ⟨⟨o6, rfl⟩, eB5, w5⟩ := hj
    rw [List.take_length] at w5
    generalize hM : rowM ksOf 1 xs = m at w5
    have hbig : Big 1 m := by rw [← hM]; exact big_row
    obtain ⟨w6, e6, dic⟩ := w5.dropD
    have e16 := (e14.trans eB5).trans e6
    have a6 : At Fm.pure B H (upd B5 na (.dT (toK m))) H5 := ⟨a4.st.trans w6.st, w6.k⟩
    refine qd_for (ds := (cellsL ts.length).map cellD) (j := 8) a6 (ev_seqL (ed_F (eds_cons (ed_var rfl (.int _)) eds_nil) ⟨ts.length, rfl, by omega⟩ rfl)) (fun i σ' B' => Ex (upd B5 na (.dT (toK m))) B' ∧ (∃ o8 o9, σ' = [some vg, some vt, some v, some (.int (n : Nat)), some v4, some (.int ((ts.length : Nat) : Int)), o6, some (.ref na), o8, o9, none]) ∧ ((cellsL ts.length).take i).all (fun c => rs.all (cleanL ts m c)) = true)
      (fun B7 e7 => ⟨e7, ⟨_, _, rfl⟩, rfl⟩) (fun Bb i vc dc σ' B7 H7 e7 hci hcv e8 a7 hi => ?_) (fun σ' B7 H7 e7 a7 hi => ?_)
    · obtain ⟨eB7, ⟨o8, o9, rfl⟩, hall2⟩ := hi
      rw [List.getElem?_map] at hci
      obtain ⟨c, hcc, rfl⟩ := Option.map_eq_some_iff.mp hci
      have hcm := List.mem_of_getElem? hcc
      have hcv2 := cells_cv hcm
      refine sv_for (K := K) (j := 9) (Ps := DDs K rs) a7 (ev_seqT (ed_var rfl (h4.up (((e2.trans e3).trans (e4.trans eB5)).trans (e6.trans eB7))))) rs.length (fun us B8 p => DdAll.len p) upc_dds (fun i σ2 B8 => Ex B7 B8 ∧ (∃ o9, σ2 = [some vg, some vt, some v, some (.int (n : Nat)), some v4, some (.int ((ts.length : Nat) : Int)), o6, some (.ref na), some vc, o9, none]) ∧ (rs.take i).all (cleanL ts m c) = true)
        (fun B8 e8 => ⟨e8, ⟨_, rfl⟩, rfl⟩) (fun Bc j vr us σ2 B8 H8 e9 hur hus e10 a8 hi2 => ?_) (fun σ2 B8 H8 e9 a8 hi2 => ?_)
      · obtain ⟨eB8, ⟨o9', rfl⟩, hall3⟩ := hi2
        obtain ⟨r, hr1, hrv⟩ := DdAll.getv (show DdAll K B8 us _ from hus) hur
        have hrm := List.mem_of_getElem? hr1
        have hkr := rg_kr (hrg r hrm)
        have dicE : EV Fm.pure (tVar 7) [some vg, some vt, some v, some (.int (n : Nat)), some v4, some (.int ((ts.length : Nat) : Int)), o6, some (.ref na), some vc, some vr, none] B8 (DicV m) := Dx.ev_var (P := DicV m) rfl upc_dic (upc_dic _ _ _ (eB7.trans eB8) dic)
        refine sv_if (b := !(cleanL ts m c r)) a8 (et_is (et_and (b := !(lkI m (kdOf r :: c)).isSome) (c := decide (0 < waysC ts m r c)) (et_val (K := K) ((ev_dnin dicE (ev_keyC hK (ed_kd (i := 9) rfl hrv hkr.1) (i := 8) rfl (hcv.up eB8) hcv2)).imp fun v _ _ e => by rw [e]; exact .bl _)) fun _ => et_cmp (K := K) (ed_op (ed_ways (i1 := 9) (i2 := 8) (i3 := 1) (t4 := tVar 7) rfl rfl rfl hrv (hcv.up eB8) (ht.up ((e16.trans eB7).trans eB8)) dicE hkr.1.1 hst (by omega) hbig (by omega) hcv2) ed_int rd_gt)) (by
          unfold cleanL
          cases (lkI m (kdOf r :: c)).isSome <;> cases decide (0 < waysC ts m r c) <;> rfl)) (fun hb B9 H9 e11 a9 => ?_) (fun hb B9 H9 e11 a9 => ?_)
        · refine sv_ret (P := DD K (.bool false)) a9 ed_bl fun v1 B10 H10 e12 a10 g10 => fin _ _ _ _ a10 g10 ?_
          have hb' : cleanL ts m c r = false := by simpa using hb
          show false = (xs.all (itemD · (n : Nat) (ts.length : Nat)) && ((List.range (xs.length - 1)).all (ltAt xs) && (!xs.any (toldD (ts.length : Nat)) && (cellsL ts.length).all fun c => rs.all (cleanL ts (rowM ksOf 1 xs) c))))
          rw [hall, hasc, htold, hM]
          exact (all_not (p := fun c => rs.all (cleanL ts m c)) hcm (all_not hrm hb')).symm
        · exact ⟨B9, e10.trans e11, a9, eB8.trans e11, ⟨_, rfl⟩, take_all hr1 hall3 (by simpa using hb)⟩
      · obtain ⟨eB8, ⟨o9', rfl⟩, hall3⟩ := hi2
        rw [List.take_length] at hall3
        exact ⟨B8, e8.trans eB8, a8, eB7.trans eB8, ⟨_, _, rfl⟩, take_all hcc hall2 hall3⟩
    · obtain ⟨eB7, ⟨o8, o9, rfl⟩, hall2⟩ := hi
      rw [List.length_map, List.take_length] at hall2
      refine sv_ret (P := DD K (.bool true)) a7 ed_bl fun v1 B10 H10 e12 a10 g10 => fin _ _ _ _ a10 g10 ?_
      show true = (xs.all (itemD · (n : Nat) (ts.length : Nat)) && ((List.range (xs.length - 1)).all (ltAt xs) && (!xs.any (toldD (ts.length : Nat)) && (cellsL ts.length).all fun c => rs.all (cleanL ts (rowM ksOf 1 xs) c))))
      rw [hall, hasc, htold, hM, hall2]
      rfl
end
end K12

namespace K12
open PySem PySem.Spec PyProof.Rows L2 Evl Ex Dx StX
open PySem.PyData (strOk)
section
variable {P : Program} {w : World} {K : PySem.W.Frag} {mg : Str → Option Value} {base : Heap} {f : Addr} {fd : FuncData}


/-! ### _law_closed -/
structure OM (nk n : Nat) (m : Mp) : Prop where
  nd : Nd m
  kv : ∀ p ∈ m, KV nk n p.1
  one : ∀ k v, lkI m k = some v → v = 1
theorem om_nil {nk n : Nat} : OM nk n [] := ⟨List.nodup_nil, fun p hp => (nomatch hp), fun k v h => (nomatch h)⟩
theorem om_put {nk n : Nat} {m : Mp} (h : OM nk n m) {k : List Int} (hk : KV nk n k) : OM nk n (ptI m k 1) := ⟨pt_nd h.nd _ _, fun p hp => by
  have hm : p.1 ∈ (ptI m k 1).map (·.1) := List.mem_map.mpr ⟨p, hp, rfl⟩
  rw [pt_keys] at hm
  split at hm
  · obtain ⟨p', hp2, e⟩ := List.mem_map.mp hm
    rw [← e]
    exact h.kv p' hp2
  · rcases List.mem_append.mp hm with hm | hm
    · obtain ⟨p', hp2, e⟩ := List.mem_map.mp hm
      rw [← e]
      exact h.kv p' hp2
    · rw [List.mem_singleton.mp hm]
      exact hk, fun j v hv => by
  rw [lk_pt] at hv
  split at hv
  · cases hv
    rfl
  · exact h.one j v hv⟩
theorem OM.big {nk n : Nat} {m : Mp} (h : OM nk n m) : Big 1 m := fun k => by
  unfold atG
  cases hh : lkI m k with
  | none => decide
  | some v =>
    rw [h.one k v hh]
    decide
theorem kv_row {nk n : Nat} {z : List Int} {v : V} {B : Hp} (hK : noInts K = true) (h : KV nk n z) (g : Dd K B v (rowD z)) : KeyV z v B := key_of hK (k := z) (by
  obtain ⟨a, b, c, d, e, rfl, _⟩ := h
  exact fun z => nomatch z) g
/-- for one in rows: there[one] = 1 -/
theorem put_ones {σ : L2.St} {B0 H0 B H : Hp} {na : Addr} {m : Mp} {nk n : Nat} {tl : TE} {D : Ends} {p i : Nat} {zs : List (List Int)} (hK : noInts K = true) (h8 : nk ≤ 8) (h5 : n ≤ 5) (w : Ow Fm.pure B0 H0 B H [(na, .dT (toK m))]) (om : OM nk n m) (h : EV Fm.pure tl σ B (SqV K (DDs K (zs.map rowD)))) (hz : ∀ z ∈ zs, KV nk n z) (hp : p < σ.length) (hi0 : i ≠ p) (hi : σ[i]? = some (some (.ref na)))
    (q : ∀ σ' B5 H5 m', (σ' = σ ∨ ∃ x, σ' = σ.set p (some x)) → Ow Fm.pure B0 H0 B5 H5 [(na, .dT (toK m'))] → Ex B B5 → OM nk n m' → D.nx σ' H5) : tFor (iSeq K tl) (gName p) (sDPut (tVar i) (tVar p) (tC (.int 1))) D σ H := by
  refine os_forD (K := K) (ds := zs.map rowD) w.k h (fun t σ' B' H' => (σ' = σ ∨ ∃ x, σ' = σ.set p (some x)) ∧ Ex B B' ∧ ∃ m', Ow Fm.pure B0 H0 B' H' [(na, .dT (toK m'))] ∧ OM nk n m') (fun t σ' B' H' ⟨_, _, _, w', _⟩ => w'.k.e)
    (fun B1 H1 s1 k1 => ⟨.inl rfl, s1.bb, m, w.pass s1 k1, om⟩) (fun Bb t d v σ' B1 H1 hd eb e1 hv hj => ?_) (fun σ' B1 H1 e1 ⟨hs, eB, m', w', om'⟩ => q σ' B1 H1 m' hs w' eB om')
  obtain ⟨hs, eB, m', w', om'⟩ := hj
  rw [List.getElem?_map] at hd
  obtain ⟨z, hz1, rfl⟩ := Option.map_eq_some_iff.mp hd
  have hkv := hz z (List.mem_of_getElem? hz1)
  have hset : σ'.set p (some v) = σ.set p (some v) := by
    rcases hs with rfl | ⟨x, rfl⟩
    · rfl
    · rw [List.set_set]
  dsimp only [gName]
  rw [hset]
  refine ws_put (n := 1) (k := z) w' (by rw [List.getElem?_set_ne (Ne.symm hi0)]; exact hi) ((ed_int (K := K) (i := 1)).imp fun v _ _ g => dd_int g) (EV.imp (P := DD K (rowD z)) (ed_var (by rw [List.getElem?_set_self hp]) hv) fun u Bw _ g => kv_row hK hkv g) om'.nd (by
    have := keys_len om'.nd om'.kv h8 h5
    omega) fun B5 H5 w5 e5 => ⟨B5, e1.trans e5, .inr ⟨v, rfl⟩, eB.trans e5, _, w5, om_put om' hkv⟩
def spCL (K : PySem.W.Frag) : Sp := fun vs H Q _ => ∃ (B : Hp) (vg vt v : V) (n : Nat) (rs : List PyData) (ts : List Str) (zs0 : List (List Int)), vs = [vg, vt, v] ∧ Ex B H ∧ Dd K B vg (.tuple [.int (n : Nat), .tuple rs]) ∧ rs.length ≤ 9 ∧ (∀ r ∈ rs, RG n r) ∧ n ≤ 8 ∧ Dd K B vt (.tuple (ts.map .str)) ∧ (∀ x ∈ ts, SeqAt.shaped (.str x) = true) ∧ ts.length ≤ 5 ∧ Dd K B v (.tuple (zs0.map rowD)) ∧ (∀ z ∈ zs0, KV n ts.length z) ∧
  ∀ v' B' H' (zs : List (List Int)), Step (fun _ => False) B H B' H' → (∀ z ∈ zs, KV n ts.length z) → zs.Nodup → Dd K B' v' (.tuple (zs.map rowD)) → Q v' H'
theorem rows_sm {zs : List (List Int)} : Sm 60 (.list (zs.map rowD)) := sm_lst (n := 59) fun d hd => by
  obtain ⟨z, _, rfl⟩ := List.mem_map.mp hd
  exact (sm_tup (n := 58) fun y hy => by
    obtain ⟨x, _, rfl⟩ := List.mem_map.mp hy
    exact sm_int)

abbrev s_law_closed : Stmt := topS 63
abbrev N_law_closed : List Str := ["grammar", "text", "value", "there", "one", "turn", "more", "cell", "rule"]
theorem sc_law_closed : FnScope N_law_closed ["grammar", "text", "value"] (defScope s_law_closed) := ⟨rfl, rfl, rfl, by decide +kernel, rfl, by decide +kernel, by decide +kernel⟩
theorem ok_law_closed (F : Fun K "_law_closed" "_law_closed" s_law_closed f fd) (T : TC K mg) (hK : noInts K = true) (m_sorted : mg "sorted" = none) (C_law_sorted_cells : Callee P w K mg base "_law_sorted_cells" 1 ["n"] (spF K preCl fCells)) (C_law_ways : Callee P w K mg base "_law_ways" 2 ["rule", "cell", "text", "found"] (spLW K)) : FnOk P w K mg base CX0 3 f fd ["grammar", "text", "value"] (spCL K) := by
  refine F.ok sc_law_closed (fun vs H Q E h => ?_) (fun cdv A outer s H vs Q E hr h => ?_)
  · obtain ⟨B, vg, vt, v, n, rs, ts, zs0, rfl, _⟩ := h
    rfl
  · obtain ⟨B, vg, vt, v, n, rs, ts, zs0, rfl, ex, hg, hl9, hrg, hn8, ht, hst, hlen, hv, hz0, q⟩ := h
    have hu64 : (A.deeper (envOfC "_law_closed" (defScope s_law_closed) s.heap.objs.size f cdv)).units + 64 < cLine := hr.units
    have hu1 : (A.deeper (envOfC "_law_closed" (defScope s_law_closed) s.heap.objs.size f cdv)).units + 1 < cLine := by omega
    refine ⟨_, (pss_cons (ps_set (i := 3) sc_law_closed.nd rfl (Or.inl rfl) pe_dnewT)
      (pss_cons (ps_for PassesOwn.never rfl (pi_seqK K (pv 2)) (pg_name (i := 4) sc_law_closed.nd rfl (Or.inl rfl)) (pss_one (ps_dput hu1 (pv 3) (pv 4) pe_int rfl)))
      (pss_cons (ps_for PassesOwn.never rfl (pi_range1 rfl T.m_range (pa_cons pe_int pa_nil)) (pg_name (i := 5) sc_law_closed.nd rfl (Or.inl rfl)) (pss_cons (ps_set (i := 6) sc_law_closed.nd rfl (Or.inl rfl) (pe_lst pa_nil))
      (pss_cons (ps_for PassesOwn.never rfl (pi_seqK K (pe_callC C_law_sorted_cells (hr.mono (by decide)) rfl pass0 (pa_cons (pe_callB (call_lenK K) (by rfl) T.m_len bt_len (pa_cons (pv 1) pa_nil)) pa_nil))) (pg_name (i := 7) sc_law_closed.nd rfl (Or.inl rfl)) (pss_one (ps_for PassesOwn.never rfl (pi_seqK K (pe_ix (ix_seqK K) (pv 0) pe_int (fun _ _ => rfl))) (pg_name (i := 8) sc_law_closed.nd rfl (Or.inl rfl)) (pss_one (ps_if (PW.pt (pw_and (pt_cmp (pc_dnotin hu1 (pe_op (op_addK K) (pe_tup (pa_cons (pe_ix (ix_seqK K) (pv 8) pe_int (fun _ _ => rfl)) pa_nil)) (pv 7)) (pv 3))) (pw_and1 (pt_cmpR op_gt (pe_callC C_law_ways (hr.mono (by decide)) rfl pass0 (pa_cons (pv 8) (pa_cons (pv 7) (pa_cons (pv 1) (pa_cons (pv 3) pa_nil))))) pe_int (nomark _))))) (pss_one (ps_expr (pe_bm PySem.F.plainAttrs_list PySem.F.slot_list_append PySem.F.type_list_append mt_append (pv 6) (pa_cons (pe_op (op_addK K) (pe_tup (pa_cons (pe_ix (ix_seqK K) (pv 8) pe_int (fun _ _ => rfl)) pa_nil)) (pv 7)) pa_nil)))) pss_nil)))))
      (pss_cons (ps_if (pt_cmpR (op_eqDK K hu64) (pv 6) (pe_lst pa_nil) (nomark _)) (pss_one (ps_ret (pe_callTy (call_tuple_ofK K) (by rfl) T.m_tuple bt_tuple (pa_cons (pe_callB (cr_sortDTK K rfl) (by rfl) m_sorted bt_sorted (pa_cons (pv 3) pa_nil)) pa_nil)))) pss_nil)
      (pss_one (ps_for PassesOwn.never rfl (pi_seqK K (pv 6)) (pg_name (i := 4) sc_law_closed.nd rfl (Or.inl rfl)) (pss_one (ps_dput hu1 (pv 3) (pv 4) pe_int rfl))))))))
      (pss_one (ps_ret (pe_callTy (call_tuple_ofK K) (by rfl) T.m_tuple bt_tuple (pa_cons (pe_callB (cr_sortDTK K rfl) (by rfl) m_sorted bt_sorted (pa_cons (pv 3) pa_nil)) pa_nil))))))), ?_⟩
    have k0 : Ok Fm.pure B H := Ok.any ex
    have hcl : (cellsL ts.length).length ≤ 413526 := by
      refine Nat.le_trans (flm_le _ fun i => c1_len i (by omega)) ?_
      have : (ts.length + 1) * 68921 ≤ 6 * 68921 := Nat.mul_le_mul_right _ (by omega)
      omega
    have done : ∀ (B1 H1 : Hp) (σ : L2.St) (na : Addr) (m : Mp) (D : Ends), D.rt = Q → σ[3]? = some (some (.ref na)) → Ow Fm.pure B H B1 H1 [(na, .dT (toK m))] → OM n ts.length m → tRet (tCB (fun xs H Q => ∃ p ys, xs = [.ref p] ∧ ((SqL K H p ys ∧ ∀ l, H l = none → Q (.ref l) (upd H l (.tup ys))) ∨ (SqT K H p ys ∧ Q (.ref p) H))) (tCons (tCB (rSortDT 5) (tCons (tVar 3) tNil)) tNil)) D σ H1 := fun B1 H1 σ na m D hD h3 w1 om => by
      obtain ⟨w2, e2, dic⟩ := w1.dropD
      have hm := keys_len om.nd om.kv hn8 hlen
      refine ws_ret (P := fun v B' => ∃ ds, (∃ zs : List (List Int), ds = zs.map rowD ∧ zs.Perm (m.map (·.1)) ∧ Asc zs) ∧ Dd K B' v (.tuple ds)) w2 (ev_tupE (EV.imp (ev_sortD (n := 5) (Dx.ev_var (P := DicV m) h3 upc_dic dic) (fun p hp => kv_len (om.kv p hp)) (by decide) (by omega)) fun v B1 _ ⟨zs, p1, p2, g⟩ => ⟨_, ⟨zs, rfl, p1, p2⟩, g⟩)) fun v1 B5 H5 w5 e5 h5 => ?_
      obtain ⟨ds, ⟨zs, rfl, p1, _⟩, g⟩ := h5
      rw [hD]
      refine q _ B5 H5 zs w5.st (fun z hz => ?_) (p1.nodup_iff.mpr om.nd) g
      obtain ⟨p, hp, rfl⟩ := List.mem_map.mp (p1.mem_iff.mp hz)
      exact om.kv p hp
    refine wq_dict (ow_nil k0) fun na w0 => ?_
    refine put_ones (D := { nx := fun σ' H' => _, rt := _ }) (p := 4) (i := 3) hK hn8 hlen w0 om_nil (ev_seqT (ed_var (i := 2) rfl hv)) hz0 (Nat.le_of_ble_eq_true rfl) (by decide) rfl fun σ1 B1 H1 m1 hσ1 w1 e1 om1 => ?_
    have hσ1' : ∃ o4, σ1 = [some vg, some vt, some v, some (.ref na), o4, none, none, none, none] := by
      rcases hσ1 with rfl | ⟨x, rfl⟩
      · exact ⟨none, rfl⟩
      · exact ⟨some x, rfl⟩
    obtain ⟨o4, rfl⟩ := hσ1'
    refine oq_rng1 (K := K) (n := 30) (j := 5) w1.k (eds_cons ed_int eds_nil) (by omega) (fun t σ' B' H' => (∃ o4 o5 o6 o7 o8, σ' = [some vg, some vt, some v, some (.ref na), o4, o5, o6, o7, o8]) ∧ Ex B1 B' ∧ ∃ m, Ow Fm.pure B H B' H' [(na, .dT (toK m))] ∧ OM n ts.length m)
      (fun B2 H2 s2 k2 => ⟨⟨_, _, _, _, _, rfl⟩, s2.bb, m1, w1.pass s2 k2, om1⟩) (fun Bb t σ' B2 H2 eb ht30 e2 hj => ?_) (fun σ' B2 H2 e2 hj => ?_)
    · obtain ⟨⟨o4, o5, o6, o7, o8, rfl⟩, eB, m, w2, om⟩ := hj
      have eT := e1.trans eB
      refine wq_lst w2 fun ma w3 => ?_
      refine oq_forD (K := K) (g := gName 7) (ds := (cellsL ts.length).map cellD) w3.k (ev_seqL (ed_F (eds_cons (ed_is (ev_cb (eds_cons (ed_var rfl (ht.up eT)) eds_nil) (rc_len rfl)) (by show PyData.int (((ts.map PyData.str).length : Nat) : Int) = .int ((ts.length : Nat) : Int); rw [List.length_map])) eds_nil) ⟨ts.length, rfl, by omega⟩ rfl)) (fun i σ' B' H' => (∃ o7 o8, σ' = [some vg, some vt, some v, some (.ref na), o4, some (.int (t : Nat)), some (.ref ma), o7, o8]) ∧ Ex B2 B' ∧ ∃ xs ks, Ow Fm.pure B H B' H' [(ma, .lst xs), (na, .dT (toK m))] ∧ DdAll K B' xs (ks.map rowD) ∧ (∀ k ∈ ks, KV n ts.length k) ∧ ks.length ≤ i * 9) (fun i σ' B' H' ⟨_, _, _, _, w', _⟩ => w'.k.e)
        (fun B3 H3 s3 k3 => ⟨⟨_, _, rfl⟩, s3.bb, [], [], w3.pass s3 k3, .nil, fun k hk => (nomatch hk), Nat.le_refl _⟩) (fun Bc i d vc σ' B3 H3 hc ec e3 hcv hj => ?_) (fun σ' B3 H3 e3 hj => ?_)
      · obtain ⟨⟨o7, o8, rfl⟩, eC, xs, ks, w4, gx, gk, gl⟩ := hj
        rw [List.getElem?_map] at hc
        obtain ⟨c, hcc, rfl⟩ := Option.map_eq_some_iff.mp hc
        have hcm := List.mem_of_getElem? hcc
        have hcV := cells_cv hcm
        have hci : i < (cellsL ts.length).length := (List.getElem?_eq_some_iff.mp hcc).1
        have eG := eT.trans eC
        dsimp only [gName]
        refine os_forD (K := K) (g := gName 8) (ds := rs) w4.k (ev_seqT (ed_op (ed_var rfl (hg.up eG)) ed_int (rd_ixT at2_1))) (fun j σ' B' H' => (∃ o8, σ' = [some vg, some vt, some v, some (.ref na), o4, some (.int (t : Nat)), some (.ref ma), some vc, o8]) ∧ Ex B3 B' ∧ ∃ xs ks, Ow Fm.pure B H B' H' [(ma, .lst xs), (na, .dT (toK m))] ∧ DdAll K B' xs (ks.map rowD) ∧ (∀ k ∈ ks, KV n ts.length k) ∧ ks.length ≤ i * 9 + j) (fun i σ' B' H' ⟨_, _, _, _, w', _⟩ => w'.k.e)
          (fun B4 H4 s4 k4 => ⟨⟨_, rfl⟩, s4.bb, xs, ks, w4.pass s4 k4, gx.up s4.bb, gk, gl⟩) (fun Bd j r vr σ' B4 H4 hr1 ed e4 hrv hj => ?_) (fun σ' B4 H4 e4 hj => ?_)
        · obtain ⟨⟨o8', rfl⟩, eD, xs, ks, w5, gx, gk, gl⟩ := hj
          have hrm := List.mem_of_getElem? hr1
          have hj9 : j < rs.length := (List.getElem?_eq_some_iff.mp hr1).1
          have hkr := rg_kr (hrg r hrm)
          have eS := w5.shut.2.1
          have dic : DicV m (.ref na) (shutL B4 [(ma, .lst xs), (na, .dT (toK m))]) := ⟨na, rfl, w5.shut.2.2 (na, .dT (toK m)) (by simp)⟩
          have dicE : EV Fm.pure (tVar 3) [some vg, some vt, some v, some (.ref na), o4, some (.int (t : Nat)), some (.ref ma), some vc, some vr] (shutL B4 [(ma, .lst xs), (na, .dT (toK m))]) (DicV m) := Dx.ev_var (P := DicV m) rfl upc_dic dic
          have hkey : KV n ts.length (kdOf r :: c) := by
            obtain ⟨x1, x2, x3, x4, rfl, b0, b1, b2, b3, b4⟩ := hcV
            exact ⟨kdOf r, x1, x2, x3, x4, rfl, ⟨hkr.2.2, hkr.2.1⟩, b0, b1, b2, b3, b4⟩
          dsimp only [gName]
          refine wl_if (b := !(cleanL ts m c r)) w5 (et_is (et_and (b := !(lkI m (kdOf r :: c)).isSome) (c := decide (0 < waysC ts m r c)) (et_val (K := K) ((ev_dnin dicE (ev_keyC hK (ed_kd (i := 8) rfl (hrv.up eS) hkr.1) (i := 7) rfl (hcv.up (eD.trans eS)) hcV)).imp fun v _ _ e => by rw [e]; exact .bl _)) fun _ => et_cmp (K := K) (ed_op (ed_ways (i1 := 8) (i2 := 7) (i3 := 1) (t4 := tVar 3) rfl rfl rfl (hrv.up eS) (hcv.up (eD.trans eS)) (ht.up ((eG.trans eD).trans eS)) dicE hkr.1.1 hst (by omega) om.big (by omega) hcV) ed_int rd_gt)) (by
            unfold cleanL
            cases (lkI m (kdOf r :: c)).isSome <;> cases decide (0 < waysC ts m r c) <;> rfl)) (fun hb H6 w6 => ?_) (fun hb H6 w6 => ?_)
          · refine ws_app (K := K) (d := rowD (kdOf r :: c)) w6 (by rfl) (by
              obtain ⟨x1, x2, x3, x4, rfl, _⟩ := hcV
              exact ed_op (ed_tup (eds_cons (ed_kd (i := 8) rfl hrv hkr.1) eds_nil)) (ed_var (i := 7) rfl (hcv.up eD)) (rd_addT (ds := [.int (kdOf r)]) (es := [.int x1, .int x2, .int x3, .int x4]) (Nat.le_of_ble_eq_true rfl))) (by
              rw [gx.len, List.length_map]
              have : i * 9 ≤ 413526 * 9 := Nat.mul_le_mul_right 9 (by omega)
              omega) fun v7 B7 H7 w7 e7 h7 => ?_
            refine ⟨B7, e4.trans e7, ⟨_, rfl⟩, eD.trans e7, _, ks ++ [kdOf r :: c], w7, by rw [List.map_append]; exact (gx.up e7).snoc h7, fun k hk => ?_, by rw [List.length_append]; show ks.length + 1 ≤ _; omega⟩
            rcases List.mem_append.mp hk with hk | hk
            · exact gk k hk
            · rw [List.mem_singleton.mp hk]
              exact hkey
          · exact ⟨B4, e4, ⟨_, rfl⟩, eD, xs, ks, w6, gx, gk, by omega⟩
        · obtain ⟨⟨o8', rfl⟩, eD, xs, ks, w5, gx, gk, gl⟩ := hj
          exact ⟨B4, e3.trans eD, ⟨_, _, rfl⟩, eC.trans eD, xs, ks, w5, gx, gk, by omega⟩
      · obtain ⟨⟨o7, o8, rfl⟩, eC, xs, ks, w4, gx, gk, gl⟩ := hj
        rw [List.length_map] at gl
        have hkl : ks.length ≤ 16777216 := by
          have : (cellsL ts.length).length * 9 ≤ 413526 * 9 := Nat.mul_le_mul_right 9 hcl
          omega
        have eS := w4.shut.2.1
        have lst : Dd K (shutL B3 [(ma, .lst xs), (na, .dT (toK m))]) (.ref ma) (.list (ks.map rowD)) := .lst (w4.shut.2.2 (ma, .lst xs) (by simp)) (by rw [gx.len, List.length_map, sizeLine_eq]; exact hkl) (gx.up eS)
        refine wl_when (b := ks.isEmpty) w4 (et_is (et_cmp (K := K) (ed_op (ed_var (i := 6) rfl lst) (ed_lst eds_nil) (rd_eqD rows_sm.sh rfl))) (by rw [eqv_nil, List.isEmpty_map])) (fun hb H5 w5 => ?_) (fun hb H5 w5 => ?_)
        · obtain ⟨w6, e6, _⟩ := w5.dropL gx (by rw [List.length_map]; exact hkl)
          exact done _ H5 _ na m _ rfl rfl w6 om
        · obtain ⟨w6, e6, hl6⟩ := w5.dropL gx (by rw [List.length_map]; exact hkl)
          refine put_ones (p := 4) (i := 3) hK hn8 hlen w6 om (ev_seqL (ed_var (i := 6) rfl hl6)) gk (Nat.le_of_ble_eq_true rfl) (by decide) rfl fun σ7 B7 H7 m7 hσ7 w7 e7 om7 => ?_
          have hσ7' : ∃ o4, σ7 = [some vg, some vt, some v, some (.ref na), o4, some (.int (t : Nat)), some (.ref ma), o7, o8] := by
            rcases hσ7 with rfl | ⟨x, rfl⟩
            · exact ⟨o4, rfl⟩
            · exact ⟨some x, rfl⟩
          obtain ⟨o4', rfl⟩ := hσ7'
          exact ⟨B7, e2.trans (eC.trans (e6.trans e7)), ⟨_, _, _, _, _, rfl⟩, eB.trans (eC.trans (e6.trans e7)), m7, w7, om7⟩
    · obtain ⟨⟨o4, o5, o6, o7, o8, rfl⟩, eB, m, w2, om⟩ := hj
      exact done _ H2 _ na m _ rfl rfl w2 om
end
end K12

namespace K12
open PySem PySem.Spec PyProof.Rows L2 Evl Ex Dx StX
open PySem.PyData (strOk)
section
variable {P : Program} {w : World} {K : PySem.W.Frag} {mg : Str → Option Value} {base : Heap} {f : Addr} {fd : FuncData}


/-! ### both count the same -/
def PosM (m : Mp) : Prop := ∀ k v, lkI m k = some v → 0 < v
theorem prod_pos {m : Mp} (h : PosM m) (a b : List Int) : prodS m (a, b) = posM (atG m a) (atG m b) := by
  show (if (lkI m a).isSome = true then atG m a * atG m b else 0) = (if 0 < atG m a then atG m a * atG m b else 0)
  have key : (lkI m a).isSome = true ↔ 0 < atG m a := by
    unfold atG
    constructor
    · intro hs
      obtain ⟨v, hv⟩ := Option.isSome_iff_exists.mp hs
      rw [hv]
      exact h a v hv
    · intro hs
      rcases Option.eq_none_or_eq_some (lkI m a) with hn | ⟨v, hv⟩
      · rw [hn] at hs
        exact absurd hs (by decide)
      · rw [hv]; rfl
  by_cases hq : (lkI m a).isSome = true
  · rw [if_pos hq, if_pos (key.mp hq)]
  · rw [if_neg hq, if_neg fun h2 => hq (key.mpr h2)]
theorem pos_sum (x : Int) : ∀ l : List Int, posM x l.sum = (l.map (posM x)).sum
  | [] => by
    show posM x 0 = 0
    unfold posM
    split <;> simp
  | y :: l => by
    rw [List.map_cons, List.sum_cons, List.sum_cons, ← pos_sum x l]
    unfold posM
    split
    · rw [Int.mul_add]
    · rfl
theorem sumS_acc (m : Mp) (f : Nat → List (List Int × List Int)) : ∀ n, sumS m (accR f n) = accM (fun c => sumS m (f c)) n
  | 0 => rfl
  | n + 1 => by
    rw [accR_succ, accM_succ, ← sumS_acc m f n]
    unfold sumS
    rw [List.map_append, List.sum_append]
theorem accM_congr {f g : Nat → Int} : ∀ {n : Nat}, (∀ c, f c = g c) → accM f n = accM g n := fun h => by
  unfold accM
  rw [List.map_congr_left fun c _ => h c]
theorem ways_many {ts : List Str} {m : Mp} (hp : PosM m) {r : PyData} (hr : RuleIs r) {i j k l : Int} (h0 : 0 ≤ i) (h1 : i ≤ j) (h2 : j ≤ k) (h3 : k ≤ l) (h4 : l ≤ (ts.length : Nat)) : waysM ts m r i j k l = manyM ts m r i j k l := by
  rcases hr with ⟨r0, how, s, rfl, _, _⟩ | ⟨r0, how, o, rfl, _⟩ | ⟨r0, how, o, ot, rfl, _⟩
  · show (if (how == ("left" : Str)) = true then wayL ts s i j (decide (k = l)) else wayR ts s k l (decide (i = j))) = wordM ts how s i j k l
    unfold wordM
    by_cases hh : (how == ("left" : Str)) = true
    · rw [if_pos hh, if_pos hh]
      unfold wayL wrdM
      by_cases e1 : j = i + 1
      · rw [if_pos (by omega)]
        congr 1
        rw [show decide (j = i + 1) = decide (j - i = 1) by rw [decide_eq_decide]; omega, show decide (k = l) = decide (l - k = 0) by rw [decide_eq_decide]; omega]
      · have n1 : ¬ (decide (j - i = 1) && (decide (l - k = 0) && (ts.getD i.toNat "" == s))) = true := by
          rw [decide_eq_false (by omega), Bool.false_and]
          decide
        have n2 : ¬ (decide (j = i + 1) && (decide (k = l) && (ts.getD i.toNat "" == s))) = true := by
          rw [decide_eq_false e1, Bool.false_and]
          decide
        rw [if_neg n1]
        split
        · first | rfl | rw [if_neg n2]
        · rfl
    · rw [if_neg hh, if_neg hh]
      unfold wayR wrdM
      by_cases e1 : l = k + 1
      · rw [if_pos (by omega)]
        congr 1
        rw [show decide (l = k + 1) = decide (l - k = 1) by rw [decide_eq_decide]; omega, show decide (i = j) = decide (j - i = 0) by rw [decide_eq_decide]; omega]
        cases decide (j - i = 0) <;> cases decide (l - k = 1) <;> rfl
      · have n1 : ¬ (decide (l - k = 1) && (decide (j - i = 0) && (ts.getD k.toNat "" == s))) = true := by
          rw [decide_eq_false (by omega), Bool.false_and]
          decide
        have n2 : ¬ (decide (i = j) && (decide (l = k + 1) && (ts.getD k.toNat "" == s))) = true := by
          rw [decide_eq_false e1, Bool.false_and, Bool.and_false]
          decide
        rw [if_neg n1]
        split
        · first | rfl | rw [if_neg n2]
        · rfl
  · rfl
  · show sumS m (splitsM how o ot i j k l) = if (how == ("wrap" : Str)) = true then wrapM m o ot i j k l else if (how == ("ahead" : Str)) = true then aheadM m o ot i j k l else behindM m o ot i j k l
    unfold splitsM
    have rowE : ∀ (x : List Int) (f : Nat → List Int) (n : Nat), sumS m ((List.range n).map fun d => (x, f d)) = posM (atG m x) (((List.range n).map fun d => atG m (f d)).sum) := fun x f n => by
      unfold sumS
      rw [pos_sum, List.map_map, List.map_map]
      congr 1
      exact List.map_congr_left fun d _ => prod_pos hp _ _
    split
    · rw [sumS_acc]
      unfold wrapM
      refine accM_congr fun c => ?_
      unfold rowW wrapIn sumS accM
      rw [List.map_map]
      congr 1
      exact List.map_congr_left fun d _ => prod_pos hp _ _
    · split
      · rw [sumS_acc]
        unfold aheadM
        refine accM_congr fun c => ?_
        unfold rowA
        rw [rowE]
        rfl
      · rw [sumS_acc]
        unfold behindM
        refine accM_congr fun c => ?_
        unfold rowB
        rw [rowE]
        rfl
theorem cv_cells {n : Nat} {c : List Int} (h : CV n c) : c ∈ cellsL n := by
  obtain ⟨i, j, g, l, rfl, b0, b1, b2, b3, b4⟩ := h
  refine List.mem_flatMap.mpr ⟨((j - i) + (l - g)).toNat, List.mem_range.mpr (by omega), List.mem_flatMap.mpr ⟨i.toNat, List.mem_range.mpr (by omega), List.mem_flatMap.mpr ⟨(j - i).toNat, List.mem_range.mpr (by omega), List.mem_flatMap.mpr ⟨(g - j).toNat, List.mem_range.mpr (by omega), ?_⟩⟩⟩⟩
  have e1 : ((i.toNat : Nat) : Int) = i := Int.toNat_of_nonneg b0
  have e2 : (((j - i).toNat : Nat) : Int) = j - i := Int.toNat_of_nonneg (by omega)
  have e3 : (((g - j).toNat : Nat) : Int) = g - j := Int.toNat_of_nonneg (by omega)
  have e4 : ((((j - i) + (l - g)).toNat : Nat) : Int) = (j - i) + (l - g) := Int.toNat_of_nonneg (by omega)
  unfold c4
  rw [e1, e2, e3, e4]
  have x1 : i + (j - i) = j := by omega
  have x2 : j + (g - j) = g := by omega
  have x3 : g + ((j - i) + (l - g)) - (j - i) = l := by omega
  rw [x1, x2, x3, if_pos (by rw [decide_eq_true b3, decide_eq_true b4]; rfl)]
  exact List.mem_singleton.mpr rfl
theorem cv_places {n : Nat} {c : List Int} : CV n c ↔ c ∈ placesL n := by
  constructor
  · rintro ⟨i, j, g, l, rfl, b0, b1, b2, b3, b4⟩
    refine places_mem.mpr ⟨i.toNat, j.toNat, g.toNat, l.toNat, ?_, by omega, by omega, by omega, by omega⟩
    rw [Int.toNat_of_nonneg b0, Int.toNat_of_nonneg (by omega), Int.toNat_of_nonneg (by omega), Int.toNat_of_nonneg (by omega)]
  · intro h
    obtain ⟨i, j, k, l, rfl, h1, h2, h3, h4⟩ := places_mem.mp h
    exact ⟨_, _, _, _, rfl, by omega, by omega, by omega, by omega, by omega⟩
theorem row_pos {kf : PyData → List Int} {ds : List PyData} : PosM (rowM kf 1 ds) := fun k v h => by
  obtain ⟨d, _, e⟩ := List.mem_map.mp (lkI_some_mem h)
  have := congrArg Prod.snd e
  have e' : (1 : Int) = v := this
  omega
theorem clean_eq {ts : List Str} {m : Mp} (hp : PosM m) {r : PyData} (hr : RuleIs r) {c : List Int} (hc : CV ts.length c) : cleanC ts m r c = cleanL ts m c r := by
  unfold cleanC cleanL
  obtain ⟨i, j, g, l, rfl, b0, b1, b2, b3, b4⟩ := hc
  show (_ || !decide (0 < manyM ts m r i j g l)) = (_ || !decide (0 < waysM ts m r i j g l))
  rw [ways_many hp hr b0 b1 b2 b3 b4]
theorem closed_eq {ts : List Str} {m : Mp} (hp : PosM m) {rs : List PyData} (hr : ∀ r ∈ rs, RuleIs r) : closedB ts m rs = (cellsL ts.length).all fun c => rs.all (cleanL ts m c) := by
  unfold closedB
  rw [Bool.eq_iff_iff, List.all_eq_true, List.all_eq_true]
  constructor
  · intro h c hc
    rw [List.all_eq_true]
    intro r hrm
    rw [← clean_eq hp (hr r hrm) (cells_cv hc)]
    exact List.all_eq_true.mp (h r hrm) c (cv_places.mp (cells_cv hc))
  · intro h r hrm
    rw [List.all_eq_true]
    intro c hc
    rw [clean_eq hp (hr r hrm) (cv_places.mpr hc)]
    exact List.all_eq_true.mp (h c (cv_cells (cv_places.mpr hc))) r hrm
theorem sum_pos : ∀ {l : List Int}, (∀ x ∈ l, 0 ≤ x) → (0 < l.sum ↔ ∃ x ∈ l, 0 < x)
  | [], _ => ⟨fun h => by simp at h, fun ⟨x, hx, _⟩ => nomatch hx⟩
  | y :: l, h => by
    have hy := h y List.mem_cons_self
    have ih := sum_pos (l := l) fun x hx => h x (List.mem_cons_of_mem _ hx)
    have nn : 0 ≤ l.sum := by
      rcases Int.lt_or_le l.sum 0 with hn | hn
      · exfalso
        have : ∀ {l : List Int}, (∀ x ∈ l, 0 ≤ x) → 0 ≤ l.sum := fun {l} hl => by
          induction l with
          | nil => exact Int.le_refl _
          | cons a l ih2 =>
            rw [List.sum_cons]
            have := hl a List.mem_cons_self
            have := ih2 fun x hx => hl x (List.mem_cons_of_mem _ hx)
            omega
        have := this (l := l) fun x hx => h x (List.mem_cons_of_mem _ hx)
        omega
      · exact hn
    rw [List.sum_cons]
    constructor
    · intro hs
      by_cases hp : 0 < y
      · exact ⟨y, List.mem_cons_self, hp⟩
      · obtain ⟨x, hx, h2⟩ := ih.mp (by omega)
        exact ⟨x, List.mem_cons_of_mem _ hx, h2⟩
    · rintro ⟨x, hx, h2⟩
      rcases List.mem_cons.mp hx with rfl | hx
      · omega
      · have := ih.mpr ⟨x, hx, h2⟩
        omega
theorem lk_row {xs : List PyData} {k : List Int} : (lkI (rowM ksOf 1 xs) k).isSome = true ↔ ∃ d ∈ xs, ksOf d = k := by
  constructor
  · intro h
    cases hh : lkI (rowM ksOf 1 xs) k with
    | none => rw [hh] at h; cases h
    | some v =>
      obtain ⟨d, hd, e⟩ := List.mem_map.mp (lkI_some_mem hh)
      exact ⟨d, hd, congrArg Prod.fst e⟩
  · rintro ⟨d, hd, rfl⟩
    cases hh : lkI (rowM ksOf 1 xs) (ksOf d) with
    | none => exact absurd rfl (lkI_none.mp hh _ (List.mem_map.mpr ⟨d, hd, rfl⟩))
    | some v => rfl
theorem told_eq {xs : List PyData} {nk : Int} {n : Nat} (h : ∀ d ∈ xs, itemD d nk (n : Nat) = true) : decide (0 < textM (rowM ksOf 1 xs) 0 0 (n : Nat)) = xs.any (toldD (n : Nat)) := by
  have pos : ∀ k, 0 ≤ atG (rowM ksOf 1 xs) k := fun k => by
    rcases atG_row (kf := ksOf) (ds := xs) k with e | e <;> rw [e] <;> decide
  rw [Bool.eq_iff_iff, decide_eq_true_eq, List.any_eq_true]
  unfold textM
  rw [sum_pos fun x hx => by obtain ⟨i, _, rfl⟩ := List.mem_map.mp hx; exact pos _]
  constructor
  · rintro ⟨x, hx, h2⟩
    obtain ⟨i, _, rfl⟩ := List.mem_map.mp hx
    have hs : (lkI (rowM ksOf 1 xs) [0, 0, 0 + (i : Int), 0 + (i : Int), (n : Int)]).isSome = true := by
      cases hh : lkI (rowM ksOf 1 xs) [0, 0, 0 + (i : Int), 0 + (i : Int), (n : Int)] with
      | some v => rfl
      | none =>
        unfold atG at h2
        rw [hh] at h2
        exact absurd h2 (by decide)
    obtain ⟨d, hd, e⟩ := lk_row.mp hs
    refine ⟨d, hd, ?_⟩
    obtain ⟨a, b, c, e', f, rfl, _⟩ := item5 (h d hd)
    have e2 : [a, b, c, e', f] = [0, 0, 0 + (i : Int), 0 + (i : Int), (n : Int)] := e
    injection e2 with e3 e4
    injection e4 with e5 e6
    injection e6 with e7 e8
    injection e8 with e9 e10
    injection e10 with e11 _
    show (decide (a = 0) && (decide (b = 0) && (decide (c = e') && decide (f = (n : Int))))) = true
    rw [decide_eq_true e3, decide_eq_true e5, decide_eq_true (e7.trans e9.symm), decide_eq_true e11]
    rfl
  · rintro ⟨d, hd, ht⟩
    obtain ⟨a, b, c, e', f, rfl, _, _, b0, b1, b2, b3, b4⟩ := item5 (h d hd)
    have ht' : (decide (a = 0) && (decide (b = 0) && (decide (c = e') && decide (f = (n : Int))))) = true := ht
    rw [Bool.and_eq_true, Bool.and_eq_true, Bool.and_eq_true, decide_eq_true_eq, decide_eq_true_eq, decide_eq_true_eq, decide_eq_true_eq] at ht'
    obtain ⟨rfl, rfl, rfl, rfl⟩ := ht'
    refine ⟨_, List.mem_map.mpr ⟨c.toNat, List.mem_range.mpr (by omega), rfl⟩, ?_⟩
    have ec : (0 : Int) + ((c.toNat : Nat) : Int) = c := by omega
    rw [ec]
    have hs : (lkI (rowM ksOf 1 xs) [0, 0, c, c, (n : Int)]).isSome = true := lk_row.mpr ⟨_, hd, rfl⟩
    have e1 := lk_atG hs
    exact row_pos _ _ e1
theorem bars_eq {ts : List Str} {rs : List PyData} {n : Nat} (hr : ∀ r ∈ rs, RuleIs r) (d : PyData) : barsB ts rs (n : Nat) d = barL ts rs (n : Nat) d := by
  cases d with
  | tuple xs =>
    show ((xs.all (itemD · (n : Nat) (ts.length : Nat)) && (List.range (xs.length - 1)).all (ltAt xs)) && (!decide (0 < textM (rowM ksOf 1 xs) 0 0 (ts.length : Nat)) && closedB ts (rowM ksOf 1 xs) rs)) = (xs.all (itemD · (n : Nat) (ts.length : Nat)) && ((List.range (xs.length - 1)).all (ltAt xs) && (!xs.any (toldD (ts.length : Nat)) && (cellsL ts.length).all fun c => rs.all (cleanL ts (rowM ksOf 1 xs) c))))
    by_cases h : xs.all (itemD · (n : Nat) (ts.length : Nat)) = true
    · rw [h, told_eq (List.all_eq_true.mp h), closed_eq row_pos hr, Bool.true_and, Bool.true_and]
    · have h' : xs.all (itemD · (n : Nat) (ts.length : Nat)) = false := by simpa using h
      rw [h', Bool.false_and, Bool.false_and, Bool.false_and]
  | _ => rfl
theorem kv_item {nk n : Nat} {z : List Int} (h : KV nk n z) : itemD (rowD z) (nk : Nat) (n : Nat) = true := by
  obtain ⟨k, i, j, g, l, rfl, ⟨k0, k1⟩, b0, b1, b2, b3, b4⟩ := h
  show (decide (([.int i, .int j, .int g, .int l] : List PyData).length = 4) && (inB (.int k) 0 ((nk : Nat) - 1) && (inB (.int i) 0 (n : Nat) && (inB (.int j) i (n : Nat) && (inB (.int g) j (n : Nat) && (inB (.int l) g (n : Nat) && true)))))) = true
  have ib : ∀ {a b c : Int}, b ≤ a → a ≤ c → inB (.int a) b c = true := fun h1 h2 => by
    unfold inB
    simp only [Bool.and_eq_true, decide_eq_true_eq]
    exact ⟨h1, h2⟩
  rw [ib k0 (by omega), ib b0 (by omega), ib b1 (by omega), ib b2 (by omega), ib b3 (by omega)]
  rfl

end
end K12

namespace K12
open PySem PySem.Spec PyProof.Rows L2 Evl Ex Dx StX
open PySem.PyData (strOk)
section
variable {P : Program} {w : World} {K : PySem.W.Frag} {mg : Str → Option Value} {base : Heap} {f : Addr} {fd : FuncData}

/-! ### the law -/
def spLaw (K : PySem.W.Frag) : Sp := fun vs H Q _ => ∃ (a : Addr) (ns : List Int), vs = [.ref a] ∧ SqL K H a (ns.map V.int) ∧ ns.length ≤ 63 ∧ ∀ H', Q (.bl true) H'
theorem gr_kept {n : Nat} {rs : List PyData} (h1 : 1 ≤ n) (h8 : n ≤ 8) (hne : rs ≠ []) (G : GR n rs) : dueD (.int (n : Nat)) (.tuple rs) = .tuple [.str "kept", .int (n : Nat), .tuple rs] := by
  have hr : rulesD (.tuple rs) n = true := by
    have l9 := G.len
    have l1 : 1 ≤ rs.length := List.length_pos_iff.mpr hne
    rw [rulesD_tup, decide_eq_true (show (1 : Int) ≤ (rs.length : Nat) by omega), decide_eq_true (show ((rs.length : Nat) : Int) ≤ 90 by omega), List.all_eq_true.mpr fun r hr => G.ruleD r hr]
    rfl
  rw [due_back (n := (n : Nat)) ⟨by omega, by omega⟩ hr]
  have hb : backK (edges rs) ((n : Int)).toNat = none := G.bk
  rw [hb]
def Vl (K : PySem.W.Frag) (Φ : List PyData → Prop) : List V → Hp → Prop := fun vs B => ∃ ds, DdAll K B vs ds ∧ Φ ds
def Al (C : PyData → Prop) (n : Nat) (ds : List PyData) : Prop := ds.length = n ∧ ∀ d ∈ ds, C d
section
variable {F : Fm} {σ : L2.St} {B : Hp} {te : TE} {tas : TA} {C : PyData → Prop} {n : Nat}
theorem al_nil : EVs F tNil σ B (Vl K (Al C 0)) := fun B1 e0 H j Q q => q [] B1 H (Step.refl j.e) j ⟨[], .nil, rfl, fun d hd => nomatch hd⟩
theorem al_cons (h : EV F te σ B (fun v B => ∃ d, Dd K B v d ∧ C d)) (hs : EVs F tas σ B (Vl K (Al C n))) : EVs F (tCons te tas) σ B (Vl K (Al C (n + 1))) := fun B1 e0 H j Q q =>
  h B1 e0 H j _ fun v B2 H2 s2 j2 ⟨d, g, hc⟩ => hs B2 (e0.trans s2.bb) H2 j2 _ fun us B3 H3 s3 j3 ⟨ds, gs, hl, hall⟩ => q (v :: us) B3 H3 (s2.trans s3) j3 ⟨d :: ds, .cons (g.up s3.bb) gs, by rw [List.length_cons, hl], fun x hx => by
    rcases List.mem_cons.mp hx with rfl | hx
    · exact hc
    · exact hall x hx⟩
theorem al_e {d : PyData} (h : ED F K te σ B d) (hc : C d) : EV F te σ B (fun v B => ∃ d, Dd K B v d ∧ C d) := EV.imp h fun v _ _ g => ⟨d, g, hc⟩
theorem ev_lstA (h : EVs F tas σ B (Vl K (Al C n))) (hn : n ≤ 1000) : EV F (tLst tas) σ B (fun v B => ∃ ds, Dd K B v (.list ds) ∧ Al C n ds) :=
  h.newL (fun vs B1 _ ⟨ds, g, hl, _⟩ => by rw [DdAll.len g, hl, sizeLine_eq]; omega) fun vs p B1 e ⟨ds, g, hl, hc⟩ hp => ⟨ds, .lst upd_same (by rw [DdAll.len g, hl, sizeLine_eq]; omega) (DdAll.up g (Ex.new hp)), hl, hc⟩
end
theorem qk_asg {F : Fm} {σ : L2.St} {B H : Hp} {te : TE} {P0 : PV} {i : Nat} {tz : TS} {D : Ends} (k : Ok F B H) (h : EV F te σ B P0) (q : ∀ v B5 H5, Ok F B5 H5 → Ex B B5 → P0 v B5 → tz D (σ.set i (some v)) H5) : tSeq (tAsg te (gName i)) tz D σ H := h B (Ex.refl B) H k _ fun v B5 H5 s5 k5 g => q v B5 H5 k5 s5.bb g
theorem qk_if {F : Fm} {σ : L2.St} {B H : Hp} {t : TT} {tu tw : TS} {D : Ends} (k : Ok F B H) (h : ETt F t σ B false) (q : ∀ B5 H5, Ok F B5 H5 → Ex B B5 → tw D σ H5) : tIfS t tu tw D σ H := h B (Ex.refl B) H k _ fun B5 H5 s5 k5 => by
  show tw D σ H5
  exact q B5 H5 k5 s5.bb
/-- [2, 4, 5][_law_take(box, 3)] -/
theorem ev_m5 {p : Addr} {σ : L2.St} {B : Hp} {i : Nat} (hi : σ[i]? = some (some (.ref p))) : EV (Fm.box p) (tOp (rIx K) (tLst (tCons (tC (.int 2)) (tCons (tC (.int 4)) (tCons (tC (.int 5)) tNil)))) (tCall (spTake K) [] E0 (tCons (tVar i) (tCons (tC (.int 3)) tNil)))) σ B (fun v _ => ∃ m : Nat, v = .int (m : Nat) ∧ m ≤ 5) := fun B1 e0 H j Q q =>
  ed_lst (K := K) (ds := [.int 2, .int 4, .int 5]) (eds_cons ed_int (eds_cons ed_int (eds_cons ed_int eds_nil))) (Nat.le_of_ble_eq_true rfl) B1 e0 H j _ fun u B2 H2 s2 j2 g => evp_take (K := K) hi ed_int (by decide) (by decide) B2 (e0.trans s2.bb) H2 j2 _ fun w B3 H3 s3 j3 ⟨n, hw, n0, n1⟩ => by
    obtain rfl := dd_int hw
    have fin : ∀ m : Int, atI [PyData.int 2, .int 4, .int 5] n = some (.int m) → 0 ≤ m → m ≤ 5 → rIx K u (.int n) H3 Q := fun m hm m0 m5 => rd_ixL (F := Fm.box p) hm B3 (Ex.refl B3) H3 u _ j3 (Dd.up g s3.bb) (.int n) Q fun z B4 H4 s4 j4 hz => q z B4 H4 ((s2.trans s3).trans s4) j4 ⟨m.toNat, by rw [dd_int hz, Int.toNat_of_nonneg m0], by omega⟩
    have : n = 0 ∨ n = 1 ∨ n = 2 := by omega
    rcases this with rfl | rfl | rfl
    · exact fin 2 (atI_nat (j := 0) rfl) (by decide) (by decide)
    · exact fin 4 (atI_nat (j := 1) rfl) (by decide) (by decide)
    · exact fin 5 (atI_nat (j := 2) rfl) (by decide) (by decide)
theorem ev_drawnE {p : Addr} {σ : L2.St} {B : Hp} {i j : Nat} {vg : V} {n : Nat} {te : TE} {rs : List PyData} (hi : σ[i]? = some (some (.ref p))) (hj : σ[j]? = some (some vg)) (hg : Dd K B vg (.tuple [.int (n : Nat), .tuple rs])) (hl : rs.length ≤ 9) (hall : ∀ r ∈ rs, RG n r) (hm : EV (Fm.box p) te σ B (fun v _ => ∃ m : Nat, v = .int (m : Nat) ∧ m ≤ 5)) : EV (Fm.box p) (tCall (spDrawn K) [] E0 (tCons (tVar i) (tCons (tVar j) (tCons te tNil)))) σ B (fun v B => ∃ d, Dd K B v d ∧ TxD 5 d) := fun B1 e1 H1 j1 Q1 q1 =>
  ⟨.ref p, hi, vg, hj, hm B1 e1 H1 j1 _ fun v B2 H2 s2 j2 ⟨m, hv, m5⟩ => ⟨p, vg, B2, n, m, rs, by rw [hv]; rfl, j2, hg.up (e1.trans s2.bb), hl, hall, by omega, fun v' B' H' d s k g ⟨S, e, l, hS⟩ => q1 v' B' H' (s2.trans s) k ⟨d, g, S, e, by omega, hS⟩⟩⟩
theorem ai_kv {n : Nat} {rs : List PyData} {ts : List Str} {zs : List (List Int)} (hrg : ∀ r ∈ rs, RG n r) (hl : rs.length ≤ 9) (ht : ts.length ≤ 5) (hp : zs.Perm ((tallyM ts rs n).map (·.1))) : (∀ z ∈ zs, KV n ts.length z) ∧ zs.Nodup := by
  obtain ⟨q, tb⟩ := tally_tb hrg hl ht
  exact ⟨fun z hz => by
    obtain ⟨p, hp2, rfl⟩ := List.mem_map.mp (hp.mem_iff.mp hz)
    exact tb.kv p hp2, hp.nodup_iff.mpr tb.nd⟩
theorem kv_count {nk n : Nat} {zs : List (List Int)} (nd : zs.Nodup) (h : ∀ z ∈ zs, KV nk n z) (h8 : nk ≤ 8) (h5 : n ≤ 5) : zs.length ≤ 1008 := by
  have e : (zs.map fun z => (z, (1 : Int))).map (·.1) = zs := by rw [List.map_map]; exact List.map_id zs
  have := keys_len (m := zs.map fun z => (z, (1 : Int))) (show ((zs.map fun z => (z, (1 : Int))).map (·.1)).Nodup by rw [e]; exact nd) (fun p hp => by
    obtain ⟨z, hz, rfl⟩ := List.mem_map.mp hp
    exact h z hz) h8 h5
  rwa [List.length_map] at this
theorem atomI2 {k : Int} (h0 : 0 ≤ k) (h1 : k ≤ 40) : atomD (.int k) = true := by
  show (decide (0 ≤ k) && decide (k ≤ 40)) = true
  rw [decide_eq_true h0, decide_eq_true h1]
  rfl
theorem row_sm1 {nk n : Nat} {z : List Int} (h : KV nk n z) (h8 : nk ≤ 8) (h5 : n ≤ 5) : smD 1 (rowD z) = true := by
  obtain ⟨k, i, j, g, l, rfl, ⟨k0, k1⟩, b0, b1, b2, b3, b4⟩ := h
  refine sm1 (by show 5 ≤ 20; decide) fun x hx => ?_
  have hx' : x ∈ [PyData.int k, .int i, .int j, .int g, .int l] := hx
  simp only [List.mem_cons, List.not_mem_nil, or_false] at hx'
  rcases hx' with rfl | rfl | rfl | rfl | rfl <;> exact atomI2 (by omega) (by omega)
theorem rows_sm2 {nk n : Nat} {zs : List (List Int)} (nd : zs.Nodup) (h : ∀ z ∈ zs, KV nk n z) (h8 : nk ≤ 8) (h5 : n ≤ 5) : smD 2 (.tuple (zs.map rowD)) = true := by
  have hl := kv_count nd h h8 h5
  show (false || (decide ((zs.map rowD).length ≤ 3000) && (zs.map rowD).all (smD 1))) = true
  rw [Bool.false_or, Bool.and_eq_true, decide_eq_true_eq, List.all_eq_true, List.length_map]
  refine ⟨by omega, fun x hx => ?_⟩
  obtain ⟨z, hz, rfl⟩ := List.mem_map.mp hx
  exact row_sm1 (h z hz) h8 h5
def Rws (ds : List PyData) : Prop := ∀ d ∈ ds, Sm 50 d
theorem row_sm {z : List Int} : Sm 50 (rowD z) := sm_tup (n := 49) fun y hy => by
  obtain ⟨x, _, rfl⟩ := List.mem_map.mp hy
  exact sm_int
theorem rws_rows (zs : List (List Int)) : Rws (zs.map rowD) := fun d hd => by
  obtain ⟨z, _, rfl⟩ := List.mem_map.mp hd
  exact row_sm
theorem Rws.cut {ds : List PyData} (h : Rws ds) (lo hi : Option Int) : Rws (cutL ds lo hi) := fun d hd => h d (List.mem_of_mem_drop (List.mem_of_mem_take hd))
theorem Rws.app {ds es : List PyData} (h : Rws ds) (h2 : Rws es) : Rws (ds ++ es) := fun d hd => by
  rcases List.mem_append.mp hd with hd | hd
  · exact h d hd
  · exact h2 d hd
theorem Rws.tup {ds : List PyData} (h : Rws ds) : Sm 60 (.tuple ds) := (sm_tup h).le (by decide)
theorem Rws.lst {ds : List PyData} (h : Rws ds) : Sm 60 (.list ds) := (sm_lst h).le (by decide)
theorem lw_sh {u : Str} (h : u ∈ LW) : SeqAt.shaped (.str u) = true := sh_str (strF u (lw_l12 h)).1
theorem txt_ok {S : List Str} (h : ∀ u ∈ S, u ∈ LW) (hl : S.length ≤ 8) : textD (.tuple (S.map .str)) 8 = true := by
  rw [textD_tup, List.length_map, decide_eq_true (show ((S.length : Nat) : Int) ≤ 8 by omega), Bool.true_and, List.all_eq_true]
  intro x hx
  obtain ⟨u, hu, rfl⟩ := List.mem_map.mp hx
  exact lw_word (h u hu)
theorem k12_asg {p : Addr} {σ : L2.St} {B H : Hp} {i : Nat} {te : TE} {vv : V} {ds : List PyData} {n : Nat} {C : PyData → Prop} {D : Ends} (k : Ok (Fm.box p) B H) (hv : Dd K B vv (.list ds)) (h : EV (Fm.box p) te σ B (fun v B => ∃ es, Dd K B v (.list es) ∧ Al C n es)) (hl : ds.length + n ≤ 1000) (hi : σ[i]? = some (some vv))
    (q : ∀ v B5 H5, Ok (Fm.box p) B5 H5 → Ex B B5 → ∀ es, Dd K B5 v (.list (ds ++ es)) → es.length = n → (∀ d ∈ es, C d) → D.nx (σ.set i (some v)) H5) : tAsg (tOp (rAddA K) (tVar i) te) (gName i) D σ H :=
  ⟨vv, hi, h B (Ex.refl B) H k _ fun u B2 H2 s2 k2 ⟨es, g, le, hc⟩ => rd_addL (F := Fm.box p) (by omega) B2 (Ex.refl B2) H2 vv u k2 (Dd.up hv s2.bb) g _ fun v B3 H3 s3 k3 g3 => q v B3 H3 k3 (s2.bb.trans s3.bb) es g3 le hc⟩
variable {c0 c1 c2 CP : Addr}
theorem ed_bh {F : Fm} {σ : L2.St} {B : Hp} {i1 i2 i3 : Nat} {vm vt v : V} {n : Nat} {rs : List PyData} {S : List Str} {d : PyData} (h1 : σ[i1]? = some (some vm)) (h2 : σ[i2]? = some (some vt)) (h3 : σ[i3]? = some (some v)) (hm : InsP K CP (.int (n : Nat)) (.tuple rs) vm B) (ht : Dd K B vt (.tuple (S.map .str))) (hv : Dd K B v d) (hr : ∀ r ∈ rs, RG n r) (hS : ∀ u ∈ S, u ∈ LW) (hl : S.length ≤ 5) : ED F K (tCall (spBH K CP) [] E0 (tCons (tVar i1) (tCons (tVar i2) (tCons (tVar i3) tNil)))) σ B (.bool (barsB S rs (n : Nat) d)) := fun B1 e1 H1 j1 Q1 q1 =>
  ⟨vm, h1, vt, h2, v, h3, B1, vm, vt, v, (n : Nat), rs, S, d, rfl, j1.e, upc_ins _ _ _ e1 hm, ht.up e1, hv.up e1, fun r h => (rg_kr (hr r h)).1, fun u hu => lw_sh (hS u hu), txt_ok hS (by omega), fun B' H' s => q1 _ B' H' s.pure (j1.pure s) (.bl _)⟩
theorem ed_bt {F : Fm} {σ : L2.St} {B : Hp} {i1 i2 i3 : Nat} {vg vt v : V} {n : Nat} {rs : List PyData} {S : List Str} {d : PyData} (h1 : σ[i1]? = some (some vg)) (h2 : σ[i2]? = some (some vt)) (h3 : σ[i3]? = some (some v)) (hg : Dd K B vg (.tuple [.int (n : Nat), .tuple rs])) (l9 : rs.length ≤ 9) (n8 : n ≤ 8) (ht : Dd K B vt (.tuple (S.map .str))) (hv : Dd K B v d) (hs : Sm 60 d) (hr : ∀ r ∈ rs, RG n r) (hS : ∀ u ∈ S, u ∈ LW) (hl : S.length ≤ 5) : ED F K (tCall (spBT K) [] E0 (tCons (tVar i1) (tCons (tVar i2) (tCons (tVar i3) tNil)))) σ B (.bool (barL S rs (n : Nat) d)) := fun B1 e1 H1 j1 Q1 q1 =>
  ⟨vg, h1, vt, h2, v, h3, B1, vg, vt, v, n, rs, S, d, rfl, j1.e, hg.up e1, l9, hr, n8, ht.up e1, fun u hu => lw_sh (hS u hu), hl, hv.up e1, hs, fun B' H' s => q1 _ B' H' s.pure (j1.pure s) (.bl _)⟩
/-- not _law_is_due(bars_hold(made, text, value), _law_bar_text(grammar, text, value)): never -/
theorem et_bars {F : Fm} {σ : L2.St} {B : Hp} {i1 i2 i3 i4 : Nat} {vm vg vt v : V} {n : Nat} {rs : List PyData} {S : List Str} {d : PyData} (h1 : σ[i1]? = some (some vm)) (h2 : σ[i2]? = some (some vt)) (h3 : σ[i3]? = some (some v)) (h4 : σ[i4]? = some (some vg)) (hm : InsP K CP (.int (n : Nat)) (.tuple rs) vm B) (hg : Dd K B vg (.tuple [.int (n : Nat), .tuple rs])) (l9 : rs.length ≤ 9) (n8 : n ≤ 8) (ht : Dd K B vt (.tuple (S.map .str))) (hv : Dd K B v d) (hs : Sm 60 d) (hr : ∀ r ∈ rs, RG n r) (hS : ∀ u ∈ S, u ∈ LW) (hl : S.length ≤ 5) :
    ETt F (tNot (tB (tCall (spF K (fun ds => ∃ a b, ds = [.bool a, .bool b]) fIs) [] E0 (tCons (tCall (spBH K CP) [] E0 (tCons (tVar i1) (tCons (tVar i2) (tCons (tVar i3) tNil)))) (tCons (tCall (spBT K) [] E0 (tCons (tVar i4) (tCons (tVar i2) (tCons (tVar i3) tNil)))) tNil))))) σ B false :=
  et_is (et_not (et_val (ed_F (z := .bool true) (eds_cons (ed_bh h1 h2 h3 hm ht hv hr hS hl) (eds_cons (ed_bt h4 h2 h3 hg l9 n8 ht hv hs hr hS hl) eds_nil)) ⟨_, _, rfl⟩ (by
    rw [bars_eq (fun r h => (rg_kr (hr r h)).1.1)]
    show PyData.bool (barL S rs (n : Nat) d == barL S rs (n : Nat) d) = .bool true
    rw [beq_self_eq_true])))) rfl
/-- _law_spoilt(box, x, 2) -/
theorem ev_spoil {p : Addr} {σ : L2.St} {B : Hp} {i j : Nat} {v : V} {d : PyData} (hi : σ[i]? = some (some (.ref p))) (hj : σ[j]? = some (some v)) (hv : Dd K B v d) (hd : smD 2 d = true) : EV (Fm.box p) (tCall (spSpoil K 2) [] E0 (tCons (tVar i) (tCons (tVar j) (tCons (tC (.int 2)) tNil)))) σ B (fun v B => ∃ d, Dd K B v d ∧ Sm 60 d) := fun B1 e1 H1 j1 Q1 q1 =>
  ⟨.ref p, hi, v, hj, p, v, B1, d, rfl, j1, hv.up e1, hd, fun v' B' H' e s k g hs => q1 v' B' H' s k ⟨e, g, hs.le (by decide)⟩⟩

abbrev s_law : Stmt := topS 64
abbrev N_law : List Str := ["script", "grammar", "box", "made", "turn", "text", "own", "cell", "extra", "wide", "at", "whole", "values", "k", "value", "other", "one"]
theorem sc_law : FnScope N_law ["script"] (defScope s_law) := ⟨rfl, rfl, rfl, by decide +kernel, rfl, by decide +kernel, by decide +kernel⟩
theorem ok_law (F : Fun K "law" "law" s_law f fd) (T : TP P w K mg base c0 c1 c2 CP) (m_sorted : mg "sorted" = none) (C_law_grammar : Callee P w K mg base "_law_grammar" 3 ["script", "most"] (spGram K)) (C_law_box : Callee P w K mg base "_law_box" 1 ["script", "k"] (spBoxN K)) (C_law_take : Callee P w K mg base "_law_take" 1 ["box", "many"] (spTake K)) (C_law_pick : Callee P w K mg base "_law_pick" 2 ["box", "some"] (spPick K))
    (C_law_made : Callee P w K mg base "_law_made" 7 ["grammar"] (spMade K CP)) (C_law_drawn_text : Callee P w K mg base "_law_drawn_text" 3 ["box", "grammar", "most"] (spDrawn K)) (C_law_spoilt : Callee P w K mg base "_law_spoilt" 5 ["box", "value", "deep"] (spSpoil K 2)) (C_law_is_due : Callee P w K mg base "_law_is_due" 1 ["told", "due"] (spF K (fun ds => ∃ a b, ds = [.bool a, .bool b]) fIs))
    (C_law_all_items : Callee P w K mg base "_law_all_items" 4 ["grammar", "text"] (spAI K)) (C_law_sorted_cells : Callee P w K mg base "_law_sorted_cells" 1 ["n"] (spF K preCl fCells)) (C_law_closed : Callee P w K mg base "_law_closed" 3 ["grammar", "text", "value"] (spCL K)) (C_law_is_told : Callee P w K mg base "_law_is_told" 1 ["value", "n"] (spF K preTold fTold))
    (C_law_bar_text : Callee P w K mg base "_law_bar_text" 4 ["grammar", "text", "value"] (spBT K)) (C_bars_hold : Callee P w K mg base "bars_hold" 5 ["pairs", "text", "value"] (spBH K CP)) : FnOk P w K mg base CX0 8 f fd ["script"] (spLaw K) := by
  refine F.ok sc_law (fun vs H Q E h => ?_) (fun cdv A outer s H vs Q E hr h => ?_)
  · obtain ⟨a, ns, rfl, _⟩ := h
    rfl
  · obtain ⟨a, ns, rfl, hS, hl, q⟩ := h
    have hu64 : (A.deeper (envOfC "law" (defScope s_law) s.heap.objs.size f cdv)).units + 64 < cLine := hr.units
    refine ⟨_, (pss_cons (ps_set (i := 1) sc_law.nd rfl (Or.inl rfl) (pe_callC C_law_grammar (hr.mono (by decide)) rfl pass0 (pa_cons (pv 0) (pa_cons pe_int pa_nil))))
      (pss_cons (ps_set (i := 2) sc_law.nd rfl (Or.inl rfl) (pe_callC C_law_box (hr.mono (by decide)) rfl pass0 (pa_cons (pv 0) (pa_cons pe_int pa_nil))))
      (pss_cons (ps_set (i := 3) sc_law.nd rfl (Or.inl rfl) (pe_callC C_law_made (hr.mono (by decide)) rfl pass0 (pa_cons (pv 1) pa_nil)))
      (pss_cons (ps_for PassesOwn.never rfl (pi_range1 rfl T.m_range (pa_cons pe_int pa_nil)) (pg_name (i := 4) sc_law.nd rfl (Or.inl rfl)) (pss_cons (ps_set (i := 5) sc_law.nd rfl (Or.inr rfl) (pe_callC C_law_drawn_text (hr.mono (by decide)) rfl pass0 (pa_cons (pv 2) (pa_cons (pv 1) (pa_cons (pe_ix (ix_seqK K) (pe_lst (pa_cons pe_int (pa_cons pe_int (pa_cons pe_int pa_nil)))) (pe_callC C_law_take (hr.mono (by decide)) rfl pass0 (pa_cons (pv 2) (pa_cons pe_int pa_nil))) (fun _ _ => rfl)) pa_nil)))))
      (pss_cons (ps_set (i := 6) sc_law.nd rfl (Or.inl rfl) (pe_callC C_law_all_items (hr.mono (by decide)) rfl pass0 (pa_cons (pv 1) (pa_cons (pv 5) pa_nil))))
      (pss_cons (ps_set (i := 7) sc_law.nd rfl (Or.inl rfl) (pe_callC C_law_pick (hr.mono (by decide)) rfl pass0 (pa_cons (pv 2) (pa_cons (pe_callC C_law_sorted_cells (hr.mono (by decide)) rfl pass0 (pa_cons (pe_callB (call_lenK K) (by rfl) T.m_len bt_len (pa_cons (pv 5) pa_nil)) pa_nil)) pa_nil))))
      (pss_cons (ps_set (i := 8) sc_law.nd rfl (Or.inr rfl) (pe_op (op_addK K) (pe_tup (pa_cons (pe_callC C_law_take (hr.mono (by decide)) rfl pass0 (pa_cons (pv 2) (pa_cons (pe_ix (ix_seqK K) (pv 1) pe_int (fun _ _ => rfl)) pa_nil))) pa_nil)) (pv 7)))
      (pss_cons (ps_set (i := 9) sc_law.nd rfl (Or.inl rfl) (pe_callC C_law_closed (hr.mono (by decide)) rfl pass0 (pa_cons (pv 1) (pa_cons (pv 5) (pa_cons (pe_op (op_addK K) (pv 6) (pe_tup (pa_cons (pv 8) pa_nil))) pa_nil)))))
      (pss_cons (ps_set (i := 10) sc_law.nd rfl (Or.inl rfl) (pe_callC C_law_take (hr.mono (by decide)) rfl pass0 (pa_cons (pv 2) (pa_cons (pe_op (op_addK K) (pe_callB (call_lenK K) (by rfl) T.m_len bt_len (pa_cons (pv 6) pa_nil)) pe_int) pa_nil))))
      (pss_cons (ps_set (i := 11) sc_law.nd rfl (Or.inl rfl) (pe_callTy (call_tuple_ofK K) (by rfl) T.m_tuple bt_tuple (pa_cons (pe_lc (own := [("one", 16)]) rfl sc_law.nd (pi_seqK K (pv 9)) (blkOk_by (own := [("one", 16)]) (N := N_law) (sc := defScope s_law) (by decide +kernel)) (fun _ _ _ _ _ => pg_name (i := 16) sc_law.nd rfl (Or.inl rfl)) (fun _ _ _ _ _ => (pts_one (pt_not (pt_val (pe_callC C_law_is_told (hr.mono (by decide)) rfl pass0 (pa_cons (pe_tup (pa_cons (pv 16) pa_nil)) (pa_cons (pe_callB (call_lenK K) (by rfl) T.m_len bt_len (pa_cons (pv 5) pa_nil)) pa_nil))))))) (fun _ _ _ _ _ => (pv 16))) pa_nil)))
      (pss_cons (ps_set (i := 12) sc_law.nd rfl (Or.inl rfl) (pe_lst (pa_cons (pv 6) (pa_cons (pv 9) (pa_cons (pv 11) (pa_cons (pe_op (op_addK K) (pe_slice (sl_anyK K) (pv 6) po_none (po_some (pv 10))) (pe_slice (sl_anyK K) (pv 6) (po_some (pe_op (op_addK K) (pv 10) pe_int)) po_none)) (pa_cons (pe_revTK K (pv 6)) (pa_cons (pe_op (op_addK K) (pv 6) (pe_slice (sl_anyK K) (pv 6) po_none (po_some pe_int))) (pa_cons (pe_callTy (call_list_ofK K) (by rfl) T.m_list bt_list (pa_cons (pv 6) pa_nil)) (pa_cons pe_non (pa_cons (pe_tup pa_nil) (pa_cons (pe_callTy (call_tuple_ofK K) (by rfl) T.m_tuple bt_tuple (pa_cons (pe_callB (cr_sortTIK K) (by rfl) m_sorted bt_sorted (pa_cons (pe_op (op_addK K) (pe_lc (own := [("one", 16)]) rfl sc_law.nd (pi_seqK K (pv 6)) (blkOk_by (own := [("one", 16)]) (N := N_law) (sc := defScope s_law) (by decide +kernel)) (fun _ _ _ _ _ => pg_name (i := 16) sc_law.nd rfl (Or.inl rfl)) (fun _ _ _ _ _ => (pts_one (pt_cmpR (op_neDK K hu64) (pv 16) (pv 8) (nomark _)))) (fun _ _ _ _ _ => (pv 16))) (pe_lst (pa_cons (pv 8) pa_nil))) pa_nil)) pa_nil)) pa_nil))))))))))))
      (pss_cons (ps_for PassesOwn.never rfl (pi_range1 rfl T.m_range (pa_cons pe_int pa_nil)) (pg_name (i := 13) sc_law.nd rfl (Or.inl rfl)) (pss_one (ps_set (i := 12) sc_law.nd rfl (Or.inl rfl) (pe_op (op_addK K) (pv 12) (pe_lst (pa_cons (pe_callC C_law_spoilt (hr.mono (by decide)) rfl pass0 (pa_cons (pv 2) (pa_cons (pv 6) (pa_cons pe_int pa_nil)))) (pa_cons (pe_callC C_law_spoilt (hr.mono (by decide)) rfl pass0 (pa_cons (pv 2) (pa_cons (pv 9) (pa_cons pe_int pa_nil)))) pa_nil)))))))
      (pss_cons (ps_for PassesOwn.never rfl (pi_seqK K (pv 12)) (pg_name (i := 14) sc_law.nd rfl (Or.inl rfl)) (pss_one (ps_if (pt_not (pt_val (pe_callC C_law_is_due (hr.mono (by decide)) rfl pass0 (pa_cons (pe_callC C_bars_hold (hr.mono (by decide)) rfl pass0 (pa_cons (pv 3) (pa_cons (pv 5) (pa_cons (pv 14) pa_nil)))) (pa_cons (pe_callC C_law_bar_text (hr.mono (by decide)) rfl pass0 (pa_cons (pv 1) (pa_cons (pv 5) (pa_cons (pv 14) pa_nil)))) pa_nil))))) (pss_one (ps_ret pe_bl)) pss_nil)))
      (pss_cons (ps_set (i := 15) sc_law.nd rfl (Or.inl rfl) (pe_callC C_law_drawn_text (hr.mono (by decide)) rfl pass0 (pa_cons (pv 2) (pa_cons (pv 1) (pa_cons pe_int pa_nil)))))
      (pss_one (ps_if (pt_not (pt_val (pe_callC C_law_is_due (hr.mono (by decide)) rfl pass0 (pa_cons (pe_callC C_bars_hold (hr.mono (by decide)) rfl pass0 (pa_cons (pv 3) (pa_cons (pv 15) (pa_cons (pv 6) pa_nil)))) (pa_cons (pe_callC C_law_bar_text (hr.mono (by decide)) rfl pass0 (pa_cons (pv 1) (pa_cons (pv 15) (pa_cons (pv 6) pa_nil)))) pa_nil))))) (pss_one (ps_ret pe_bl)) pss_nil))))))))))))))
      (pss_one (ps_ret pe_bl)))))), ?_⟩
    refine ⟨.ref a, rfl, a, ns, H, rfl, Ex.refl H, hS, hl, fun vg Bg Hg n rs sg hg n1 n8 hne G => ?_⟩
    refine ⟨.ref a, rfl, a, 4, ns, Bg, rfl, sg.bh, ex_l sg.bb hS, hl, by decide, by decide, fun p B1 H1 hp s1 k1 => ?_⟩
    have hg := hg.up s1.bb
    have hRG : ∀ r ∈ rs, RG n r := G.ok
    have l9 := G.len
    dsimp only [gName]
    refine qk_asg (P0 := InsP K CP (.int (n : Nat)) (.tuple rs)) k1 (fun B2 e2 H2 j2 Q2 q2 => ⟨vg, rfl, B2, vg, _, _, rfl, j2.e, hg.up e2, gr_kept n1 n8 hne G, fun v' B' H' s g => q2 v' B' H' s.pure (j2.pure s) g⟩) fun vm B2 H2 k2 e2 hm => ?_
    have hg := hg.up e2
    refine oq_rng1 (K := K) (F := Fm.box p) (n := 2) (j := 4) k2 (eds_cons ed_int eds_nil) (by omega) (fun t σ' B' H' => (∃ o4 o5 o6 o7 o8 o9 oa ob oc od oe of og, σ' = [some (.ref a), some vg, some (.ref p), some vm, o4, o5, o6, o7, o8, o9, oa, ob, oc, od, oe, of, og]) ∧ Ex B2 B' ∧ Ok (Fm.box p) B' H')
      (fun B3 H3 s3 k3 => ⟨⟨_, _, _, _, _, _, _, _, _, _, _, _, _, rfl⟩, s3.bb, k3⟩) (fun Bb t σ' B3 H3 eb ht2 e3 hj => ?_) (fun σ' B3 H3 e3 hj => ?_)
    · obtain ⟨⟨o4, o5, o6, o7, o8, o9, oa, ob, oc, od, oe, of, og, rfl⟩, e23, k3⟩ := hj
      have hg := hg.up e23
      have hm := upc_ins _ _ _ e23 hm
      -- text
      refine qk_asg k3 (ev_drawnE (n := n) (rs := rs) (i := 2) (j := 1) rfl rfl hg l9 hRG (ev_m5 rfl)) fun vt B4 H4 k4 e4 ⟨dt, htx, S, edt, hS5, hSL⟩ => ?_
      subst edt
      have hSs : ∀ x ∈ S, SeqAt.shaped (.str x) = true := fun u hu => lw_sh (hSL u hu)
      have hg := hg.up e4
      have hm := upc_ins _ _ _ e4 hm
      -- own
      refine qk_asg (P0 := fun v B => ∃ zs : List (List Int), ((∀ z ∈ zs, KV n S.length z) ∧ zs.Nodup) ∧ Dd K B v (.tuple (zs.map rowD))) k4 (fun B5 e5 H5 j5 Q5 q5 => ⟨vg, rfl, vt, rfl, B5, vg, vt, n, rs, S, rfl, j5.e, hg.up e5, l9, hRG, n8, htx.up e5, hSs, hS5, fun v' B' H' zs s pm _ g => q5 v' B' H' s.pure (j5.pure s) ⟨zs, ai_kv hRG l9 hS5 pm, g⟩⟩) fun vo B5 H5 k5 e5 ⟨zs, ⟨hkv, hnd⟩, hown⟩ => ?_
      have hg := hg.up e5
      have hm := upc_ins _ _ _ e5 hm
      have htx := htx.up e5
      have hzl := kv_count hnd hkv n8 hS5
      have lenS : ∀ {F : Fm} {σ : L2.St} {B : Hp}, σ[5]? = some (some vt) → Dd K B vt (.tuple (S.map .str)) → ED F K (tCB (fun xs H Q => ∃ x n, xs = [x] ∧ LenV K x H n ∧ Q (.int (n : Nat)) H) (tCons (tVar 5) tNil)) σ B (.int ((S.length : Nat) : Int)) := fun h1 h2 => ed_is (ev_cb (eds_cons (ed_var h1 h2) eds_nil) (rc_len rfl)) (by show PyData.int (((S.map PyData.str).length : Nat) : Int) = .int ((S.length : Nat) : Int); rw [List.length_map])
      -- cell
      refine qk_asg k5 (ev_pick (K := K) (i := 2) (d := .list ((cellsL S.length).map cellD)) (xs := (cellsL S.length).map cellD) rfl (ed_F (eds_cons (lenS rfl htx) eds_nil) ⟨S.length, rfl, by omega⟩ rfl) (.inl rfl) (fun z => by
        have := cv_cells (n := S.length) (c := [0, 0, 0, 0]) ⟨0, 0, 0, 0, rfl, by omega, by omega, by omega, by omega, by omega⟩
        rw [List.map_eq_nil_iff] at z
        rw [z] at this
        exact nomatch this) (by
          rw [List.length_map]
          have h1 := flm_le (g := K12.c1 S.length) (S.length + 1) fun i => c1_len (n := S.length) i (by omega)
          have h2 : (S.length + 1) * 68921 ≤ 6 * 68921 := Nat.mul_le_mul_right _ (by omega)
          exact Nat.lt_of_le_of_lt h1 (by omega))) fun vc B6 H6 k6 e6 ⟨ec, hec, hcell⟩ => ?_
      obtain ⟨c, hcm, rfl⟩ := List.mem_map.mp hec
      have hcv := cells_cv hcm
      have hg := hg.up e6
      have hm := upc_ins _ _ _ e6 hm
      have htx := htx.up e6
      have hown := hown.up e6
      -- extra
      refine qk_asg (P0 := fun v B => ∃ k : Int, (0 ≤ k ∧ k < (n : Nat)) ∧ Dd K B v (rowD (k :: c))) k6 (fun B7 e7 H7 j7 Q7 q7 => (ev_tup1 (K := K) (Pa := fun d => ∃ k : Int, d = .int k ∧ 0 ≤ k ∧ k < (n : Nat)) (EV.imp (evp_take (K := K) (i := 2) rfl (ed_op (ed_var (i := 1) rfl hg) ed_int (rd_ixT at2_0)) (by omega) (by omega)) fun v _ _ ⟨k, hk, k0, k1⟩ => ⟨_, hk, k, rfl, k0, k1⟩)) B7 e7 H7 j7 _ fun v8 B8 H8 s8 j8 ⟨x, gx, k, ek, k0, k1⟩ => by
        subst ek
        exact (ed_op (K := K) (σ := [some (.ref a), some vg, some (.ref p), some vm, some (.int (t : Nat)), some vt, some vo, some vc, o8, o9, oa, ob, oc, od, oe, of, og]) (ed_v gx) (ed_var (i := 7) rfl (hcell.up (e7.trans s8.bb))) (rd_addT (by
          obtain ⟨_, _, _, _, rfl, _⟩ := hcv
          show 1 + 4 ≤ 16777216
          decide))) B8 (Ex.refl B8) H8 j8 _ fun v9 B9 H9 s9 j9 g9 => q7 v9 B9 H9 (s8.trans s9) j9 ⟨k, ⟨k0, k1⟩, g9⟩) fun vx B7 H7 k7 e7 ⟨k, hk, hext⟩ => ?_
      have hg := hg.up e7
      have hm := upc_ins _ _ _ e7 hm
      have htx := htx.up e7
      have hown := hown.up e7
      have hkx : KV n S.length (k :: c) := by
        obtain ⟨i, j, g, l, rfl, b⟩ := hcv
        exact ⟨k, i, j, g, l, rfl, hk, b⟩
      -- wide
      have hoe : ∀ z ∈ zs ++ [k :: c], KV n S.length z := fun z hz => by
        rcases List.mem_append.mp hz with hz | hz
        · exact hkv z hz
        · rw [List.mem_singleton.mp hz]
          exact hkx
      refine qk_asg (P0 := fun v B => ∃ ws : List (List Int), ((∀ z ∈ ws, KV n S.length z) ∧ ws.Nodup) ∧ Dd K B v (.tuple (ws.map rowD))) k7 (fun B8 e8 H8 j8 Q8 q8 => ⟨vg, rfl, vt, rfl, (ed_op (K := K) (ed_var (i := 6) rfl hown) (ed_tup (eds_cons (ed_var (i := 8) rfl hext) eds_nil)) (rd_addT (by rw [List.length_map]; show zs.length + 1 ≤ 16777216; omega))) B8 e8 H8 j8 _ fun v9 B9 H9 s9 j9 g9 => ⟨B9, vg, vt, v9, n, rs, S, zs ++ [k :: c], rfl, j9.e, hg.up (e8.trans s9.bb), l9, hRG, n8, htx.up (e8.trans s9.bb), hSs, hS5, by rw [List.map_append]; exact g9, hoe, fun v' B' H' ws s hw nw g => q8 v' B' H' (s9.trans s.pure) (j9.pure s) ⟨ws, ⟨hw, nw⟩, g⟩⟩⟩) fun vw B8 H8 k8 e8 ⟨ws, ⟨hwk, hwn⟩, hwide⟩ => ?_
      have hg := hg.up e8
      have hm := upc_ins _ _ _ e8 hm
      have htx := htx.up e8
      have hown := hown.up e8
      have hext := hext.up e8
      have hwl := kv_count hwn hwk n8 hS5
      have lenO : ∀ {F : Fm} {σ : L2.St} {B : Hp}, σ[6]? = some (some vo) → Dd K B vo (.tuple (zs.map rowD)) → ED F K (tCB (fun xs H Q => ∃ x n, xs = [x] ∧ LenV K x H n ∧ Q (.int (n : Nat)) H) (tCons (tVar 6) tNil)) σ B (.int ((zs.length : Nat) : Int)) := fun h1 h2 => ed_is (ev_cb (eds_cons (ed_var h1 h2) eds_nil) (rc_len rfl)) (by show PyData.int (((zs.map rowD).length : Nat) : Int) = .int ((zs.length : Nat) : Int); rw [List.length_map])
      -- at
      refine qk_asg k8 (evp_take (K := K) (i := 2) (m := ((zs.length : Nat) : Int) + 1) rfl (ed_op (lenO rfl hown) ed_int rd_add) (by omega) (by omega)) fun va B9 H9 k9 e9 ⟨at_, hat, at0, at1⟩ => ?_
      have hg := hg.up e9
      have hm := upc_ins _ _ _ e9 hm
      have htx := htx.up e9
      have hown := hown.up e9
      have hext := hext.up e9
      have hwide := hwide.up e9
      -- whole
      refine qk_asg (P0 := fun v B => ∃ d, Dd K B v d ∧ Sm 60 d) k9 (al_e (K := K) (ev_cb (eds_cons (ed_lcD (K := K) (ds := ws.map rowD) (fun d => !(toldD ((S.length : Nat) : Int) d)) (fun d => d) (ev_seqT (ed_var (i := 9) rfl hwide)) (by rw [List.length_map]; omega) (fun _ => rfl) (fun d v Bd hd ed hv => ?_) (fun d v Bd hd hp ed hv => ed_var rfl hv)) eds_nil) rc_tupL) (Rws.tup fun d hd => ?_)) fun vh B10 H10 k10 e10 ⟨dh, hwh, shh⟩ => ?_
      · obtain ⟨z, hz, rfl⟩ := List.mem_map.mp hd
        exact et_is (et_not (et_val (ed_F (z := .bool (toldD ((S.length : Nat) : Int) (rowD z))) (eds_cons (ed_tup (eds_cons (ed_var rfl hv) eds_nil)) (eds_cons (lenS rfl (htx.up ed)) eds_nil)) ⟨[rowD z], _, _, _, rfl, fun d hd => by
          rw [List.mem_singleton.mp hd]
          exact kv_item (hwk z hz)⟩ (by show PyData.bool ((toldD ((S.length : Nat) : Int) (rowD z)) || false) = _; rw [Bool.or_false])))) rfl
      · obtain ⟨d', hd', rfl⟩ := List.mem_map.mp hd
        exact rws_rows ws _ (List.mem_filter.mp hd').1
      have hg := hg.up e10
      have hm := upc_ins _ _ _ e10 hm
      have htx := htx.up e10
      have hown := hown.up e10
      have hext := hext.up e10
      have hwide := hwide.up e10
      have hat := hat.up e10
      -- values
      have rz := rws_rows zs
      have rw_ := rws_rows ws
      refine qk_asg (P0 := fun v B => ∃ ds, Dd K B v (.list ds) ∧ Al (Sm 60) 10 ds) k10 (ev_lstA (al_cons (al_e (ed_var (i := 6) rfl hown) rz.tup) (al_cons (al_e (ed_var (i := 9) rfl hwide) rw_.tup) (al_cons (al_e (ed_var (i := 11) rfl hwh) shh) (al_cons (al_e (ed_op (ed_slT (ed_var (i := 6) rfl hown) eo_none (eo_some (ed_var (i := 10) rfl hat))) (ed_slT (ed_var (i := 6) rfl hown) (eo_some (ed_op (ed_var (i := 10) rfl hat) ed_int rd_add)) eo_none) (rd_addT (by
          have h1 := cutL_len (zs.map rowD) none (some at_)
          have h2 := cutL_len (zs.map rowD) (some (at_ + 1)) none
          rw [List.length_map] at h1 h2
          omega))) ((rz.cut _ _).app (rz.cut _ _)).tup)
        (al_cons (al_e (ed_rev (ed_var (i := 6) rfl hown)) (Rws.tup fun d hd => rz d (List.mem_reverse.mp hd))) (al_cons (al_e (ed_op (ed_var (i := 6) rfl hown) (ed_slT (ed_var (i := 6) rfl hown) eo_none (eo_some (K := K) ed_int)) (rd_addT (by
          have h1 := cutL_len (zs.map rowD) none (some 1)
          rw [List.length_map] at h1 ⊢
          omega))) (rz.app (rz.cut _ _)).tup)
        (al_cons (al_e (ev_cb (eds_cons (ed_var (i := 6) rfl hown) eds_nil) rc_lstT) rz.lst) (al_cons (al_e ed_non sm_none) (al_cons (al_e (ed_tup eds_nil) (Rws.tup fun d hd => nomatch hd)) (al_cons (EV.imp (ev_tupE (K := K) (R := Rws) (EV.imp (ev_sortL (K := K) (d := 5) (zs := (zs.filter fun z => !PyData.eqv (rowD z) (rowD (k :: c))) ++ [k :: c]) (ed_is (ed_op (ed_lcD (K := K) (ds := zs.map rowD) (fun d => !PyData.eqv d (rowD (k :: c))) (fun d => d) (ev_seqT (ed_var (i := 6) rfl hown)) (by rw [List.length_map]; omega) (fun _ => rfl) (fun d v Bd hd ed hv => et_cmp (ed_op (ed_var rfl hv) (ed_var (i := 8) rfl (hext.up ed)) (rd_neD (rz d hd).sh row_sm.sh))) (fun d v Bd hd hp ed hv => ed_var rfl hv)) (ed_lst (eds_cons (ed_var (i := 8) rfl hext) eds_nil)) (rd_addL (by
            rw [List.length_map]
            have := List.length_filter_le (fun d => !PyData.eqv d (rowD (k :: c))) (zs.map rowD)
            rw [List.length_map] at this
            show _ + 1 ≤ 16777216
            omega))) (by
            rw [List.map_append, List.filter_map, List.map_map]
            rfl)) (fun z hz => ?_)) fun v _ _ ⟨es, pe, ge⟩ => ⟨es, fun d hd => rws_rows _ d (pe.mem_iff.mp hd), ge⟩)) fun v _ _ ⟨es, re, ge⟩ => ⟨_, ge, re.tup⟩)
        al_nil)))))))))) (by decide)) fun vv B11 H11 k11 e11 ⟨ds, hvals, hdl, hds⟩ => ?_
      · rcases List.mem_append.mp hz with hz | hz
        · exact kv_len (hkv z (List.mem_filter.mp hz).1)
        · rw [List.mem_singleton.mp hz]
          exact kv_len hkx
      have hg := hg.up e11
      have hm := upc_ins _ _ _ e11 hm
      have htx := htx.up e11
      have hown := hown.up e11
      have hwide := hwide.up e11
      have sz := rows_sm2 hnd hkv n8 hS5
      have sw := rows_sm2 hwn hwk n8 hS5
      -- spoilt ones
      refine oq_rng1 (K := K) (F := Fm.box p) (n := 3) (j := 13) k11 (eds_cons ed_int eds_nil) (by omega) (fun u σ' B' H' => (∃ od vv ds, σ' = [some (.ref a), some vg, some (.ref p), some vm, some (.int (t : Nat)), some vt, some vo, some vc, some vx, some vw, some va, some vh, some vv, od, oe, of, og] ∧ Dd K B' vv (.list ds) ∧ ds.length = 10 + 2 * u ∧ ∀ d ∈ ds, Sm 60 d) ∧ Ex B11 B' ∧ Ok (Fm.box p) B' H')
        (fun B12 H12 s12 k12 => ⟨⟨_, vv, ds, rfl, hvals.up s12.bb, hdl, hds⟩, s12.bb, k12⟩) (fun Bc u σ' B12 H12 ec hu3 e12 hj => ?_) (fun σ' B12 H12 e12 hj => ?_)
      · obtain ⟨⟨od, vv, ds, rfl, hvals, hdl, hds⟩, e1112, k12⟩ := hj
        have hown := hown.up e1112
        have hwide := hwide.up e1112
        have hu : u < 3 := by omega
        refine k12_asg (K := K) (p := p) k12 hvals (ev_lstA (K := K) (al_cons (ev_spoil (i := 2) (j := 6) rfl rfl hown sz) (al_cons (ev_spoil (i := 2) (j := 9) rfl rfl hwide sw) al_nil)) (by decide)) (by omega) rfl fun v B13 H13 k13 e13 es g13 les hes => ?_
        refine ⟨B13, e12.trans e13, ⟨_, v, ds ++ es, rfl, g13, by rw [List.length_append, les, hdl]; omega, fun d hd => ?_⟩, e1112.trans e13, k13⟩
        rcases List.mem_append.mp hd with hd | hd
        · exact hds d hd
        · exact hes d hd
      obtain ⟨⟨od, vv, ds, rfl, hvals, hdl, hds⟩, e1112, k12⟩ := hj
      have hg := hg.up e1112
      have hm := upc_ins _ _ _ e1112 hm
      have htx := htx.up e1112
      have hown := hown.up e1112
      -- each of them
      refine oq_forD (K := K) (F := Fm.box p) (g := gName 14) (ds := ds) k12 (ev_seqL (ed_var (i := 12) rfl hvals)) (fun i σ' B' H' => (∃ oe, σ' = [some (.ref a), some vg, some (.ref p), some vm, some (.int (t : Nat)), some vt, some vo, some vc, some vx, some vw, some va, some vh, some vv, od, oe, of, og]) ∧ Ex B12 B' ∧ Ok (Fm.box p) B' H') (fun i σ' B' H' ⟨_, _, k'⟩ => k'.e)
        (fun B13 H13 s13 k13 => ⟨⟨_, rfl⟩, s13.bb, k13⟩) (fun Bc i d v σ' B13 H13 hd ec e13 hv hj => ?_) (fun σ' B13 H13 e13 hj => ?_)
      · obtain ⟨⟨oe, rfl⟩, e1213, k13⟩ := hj
        dsimp only [gName]
        refine qk_if k13 (et_bars (i1 := 3) (i2 := 5) (i3 := 14) (i4 := 1) rfl rfl rfl rfl (upc_ins _ _ _ e1213 hm) (hg.up e1213) l9 n8 (htx.up e1213) hv (hds d (List.mem_of_getElem? hd)) hRG hSL hS5) fun B14 H14 k14 e14 => ⟨B14, e13.trans e14, ⟨_, rfl⟩, e1213.trans e14, k14⟩
      obtain ⟨⟨oe, rfl⟩, e1213, k13⟩ := hj
      have hg := hg.up e1213
      have hm := upc_ins _ _ _ e1213 hm
      have hown := hown.up e1213
      -- another text
      refine qk_asg k13 (ev_drawnE (n := n) (rs := rs) (i := 2) (j := 1) rfl rfl hg l9 hRG (EV.imp (ed_int (K := K) (i := 4)) fun v _ _ g => ⟨4, dd_int g, by decide⟩)) fun vt2 B14 H14 k14 e14 ⟨dt2, htx2, S2, edt2, hS25, hSL2⟩ => ?_
      subst edt2
      exact qk_if k14 (et_bars (i1 := 3) (i2 := 15) (i3 := 6) (i4 := 1) rfl rfl rfl rfl (upc_ins _ _ _ e14 hm) (hg.up e14) l9 n8 htx2 (hown.up e14) rz.tup hRG hSL2 hS25) fun B15 H15 k15 e15 => ⟨B15, ((((((((((((e3.trans e4).trans e5).trans e6).trans e7).trans e8).trans e9).trans e10).trans e11).trans e12).trans e13).trans e14).trans e15), ⟨_, _, _, _, _, _, _, _, _, _, _, _, _, rfl⟩, ((((((((((((e23.trans e4).trans e5).trans e6).trans e7).trans e8).trans e9).trans e10).trans e11).trans e12).trans e13).trans e14).trans e15), k15⟩
    exact q _

end
end K12

namespace K12
open PySem PySem.Spec PyProof.Rows L2 Evl Ex Dx StX
open PySem.PyData (strOk)

structure TFact (K : PySem.W.Frag) (x : Str) (L : List Str) : Prop where
  ex : ∃ W, PySem.W.nsIn K mainGlobals x = some (some (.ref W)) ∧ ∀ H, Dd K H (.ref W) (.tuple (L.map .str))
theorem tfact3 {K : PySem.W.Frag} {x a b c : Str} {W : Addr} {od : Option Addr} {n : Nat} {sl : Array (Option Value)} {ta tb tc : Tok} (h : PySem.W.nsIn K mainGlobals x = some (some (.ref W))) (l : K.lookup W = some ⟨.type "tuple", od, .seq #[.str a ta, .str b tb, .str c tc] n, sl⟩) (la : a.length ≤ 100 := by decide) (lb : b.length ≤ 100 := by decide) (lc : c.length ≤ 100 := by decide) : TFact K x [a, b, c] :=
  ⟨W, h, fun H => .tup (xs := [.str a, .str b, .str c]) (.inr ⟨_, _, _, l, rfl, rfl, by show 3 ≤ sizeLine; decide, .cons ⟨_, rfl⟩ (.cons ⟨_, rfl⟩ (.cons ⟨_, rfl⟩ .nil))⟩) (by show 3 ≤ sizeLine; decide) (.cons (.str _ (by rw [sizeLine_eq]; omega)) (.cons (.str _ (by rw [sizeLine_eq]; omega)) (.cons (.str _ (by rw [sizeLine_eq]; omega)) .nil)))⟩
theorem tfact2 {K : PySem.W.Frag} {x a b : Str} {W : Addr} {od : Option Addr} {n : Nat} {sl : Array (Option Value)} {ta tb : Tok} (h : PySem.W.nsIn K mainGlobals x = some (some (.ref W))) (l : K.lookup W = some ⟨.type "tuple", od, .seq #[.str a ta, .str b tb] n, sl⟩) (la : a.length ≤ 100 := by decide) (lb : b.length ≤ 100 := by decide) : TFact K x [a, b] :=
  ⟨W, h, fun H => .tup (xs := [.str a, .str b]) (.inr ⟨_, _, _, l, rfl, rfl, by show 2 ≤ sizeLine; decide, .cons ⟨_, rfl⟩ (.cons ⟨_, rfl⟩ .nil)⟩) (by show 2 ≤ sizeLine; decide) (.cons (.str _ (by rw [sizeLine_eq]; omega)) (.cons (.str _ (by rw [sizeLine_eq]; omega)) .nil))⟩
structure PFact (K : PySem.W.Frag) (CP : Addr) : Prop where
  cl : Cls K CP
  nk : NoAttr K CP "kinds"
  nr : NoAttr K CP "rules"
  ca : PySem.W.findIn K (.ref CP) "__class__" = some (some (.builtin "object.__class__"))
  sg : PySem.W.specialIn K (.builtin "object.__class__") "__get__" = some (some (.builtin "getset_descriptor.__get__"))
  tk : PySem.W.takesIn K (.builtin "object.__class__") = some true
  mo : PySem.W.mroIn K CP (.type "object") = some true
theorem pfact_mk {K : PySem.W.Frag} {CP : Addr} (pg : PySem.W.plainGet K CP Str.empty = true) (hd : PySem.W.hasDictIn K CP = true) (po : PySem.W.plainOver K CP = true) (sa : PySem.W.findIn K (.ref CP) "__setattr__" = some (some (.builtin "object.__setattr__")))
    (nk : PySem.W.findIn K (.ref CP) "kinds" = some none) (nr : PySem.W.findIn K (.ref CP) "rules" = some none) (ca : PySem.W.findIn K (.ref CP) "__class__" = some (some (.builtin "object.__class__"))) (sg : PySem.W.specialIn K (.builtin "object.__class__") "__get__" = some (some (.builtin "getset_descriptor.__get__")))
    (tk : PySem.W.takesIn K (.builtin "object.__class__") = some true) (mo : PySem.W.mroIn K CP (.type "object") = some true) : PFact K CP := ⟨⟨pg, hd, po, sa⟩, nk, nr, ca, sg, tk, mo⟩
def pairTab (K : PySem.W.Frag) (c0 c1 c2 CP : Addr) : Bool := decide (PySem.W.exmOne K (.ref c0) (.ref c0) = some true) && (decide (PySem.W.exmOne K (.ref c1) (.ref c0) = some false) && (decide (PySem.W.exmOne K (.ref c1) (.ref c1) = some true) && (decide (PySem.W.exmOne K (.ref c2) (.ref c0) = some false) && (decide (PySem.W.exmOne K (.ref c2) (.ref c1) = some false) && (decide (PySem.W.exmOne K (.ref c2) (.ref c2) = some true) &&
  (decide (PySem.W.kitOne K (.ref CP) (.ref CP) = some true) && decide (PySem.W.kitOne K (.type "tuple") (.ref CP) = some false)))))))

theorem all_mk {l : PySem.W.OpenLaw} {w : World} {K : PySem.W.Frag} {h : Heap} {mg : Str → Option Value} {fa c0 c1 c2 G CP : Addr} {f_is_integer f_is_between f_is_word f_is_text f_is_rules f_is_rule f_steps_of f_endless_kind f_kinds_behind f_bars_hold f_is_items f_is_item f_all_places f_has_whole f_is_closed f_many_by f_many_by_word f_many_by_one f_many_by_wrap f_many_by_ahead f_many_by_behind f_many_of_text f_law_box f_law_take f_law_pick f_law_whole f_law_is_numbers f_law_is_due f_law_spoilt f_law_shuffled f_law_back_kind f_law_unary f_law_grammar f_law_made f_law_order f_law_sorted_cells f_law_tally f_law_ways f_law_splits f_law_words f_law_drawn_text f_law_all_items f_law_is_item f_law_is_told f_law_bar_text f_law_closed f_law : Addr} {t_MOST_WORDS t_MOST_LETTERS t_MOST_KINDS t_MOST_RULES : Tok} (X : K.In h) (N : h.Ns mainGlobals mg) (hfa : mg "law" = some (.ref fa))
    (e0 : XFact K "InvalidNumber" "value" "InvalidNumber.__init__" s_InvalidNumber_init c0)
    (e1 : XFact K "InvalidRules" "value" "InvalidRules.__init__" s_InvalidRules_init c1)
    (e2 : XFact K "Endless" "kind" "Endless.__init__" s_Endless_init c2)
    (g : GFact K "GraftError" G)
    (z_len : PySem.W.nsIn K mainGlobals "len" = some none)
    (z_abs : PySem.W.nsIn K mainGlobals "abs" = some none)
    (z_int : PySem.W.nsIn K mainGlobals "int" = some none)
    (z_str : PySem.W.nsIn K mainGlobals "str" = some none)
    (z_bool : PySem.W.nsIn K mainGlobals "bool" = some none)
    (z_tuple : PySem.W.nsIn K mainGlobals "tuple" = some none)
    (z_list : PySem.W.nsIn K mainGlobals "list" = some none)
    (z_all : PySem.W.nsIn K mainGlobals "all" = some none)
    (z_isinstance : PySem.W.nsIn K mainGlobals "isinstance" = some none)
    (z_range : PySem.W.nsIn K mainGlobals "range" = some none)
    (z_sum : PySem.W.nsIn K mainGlobals "sum" = some none)
    (z_sorted : PySem.W.nsIn K mainGlobals "sorted" = some none)
    (k_MOST_WORDS : PySem.W.nsIn K mainGlobals "MOST_WORDS" = some (some (.int 8 t_MOST_WORDS)))
    (k_MOST_LETTERS : PySem.W.nsIn K mainGlobals "MOST_LETTERS" = some (some (.int 3 t_MOST_LETTERS)))
    (k_MOST_KINDS : PySem.W.nsIn K mainGlobals "MOST_KINDS" = some (some (.int 40 t_MOST_KINDS)))
    (k_MOST_RULES : PySem.W.nsIn K mainGlobals "MOST_RULES" = some (some (.int 90 t_MOST_RULES)))
    (w_WORD : TFact K "WORD_SHAPES" ["left", "right"])
    (w_ONE : TFact K "ONE_SHAPES" ["same", "first", "last"])
    (w_TWO : TFact K "TWO_SHAPES" ["wrap", "ahead", "behind"])
    (pc : CFact K "Pairs" "Pairs.__init__" s_Pairs_init CP)
    (pl : PFact K CP)
    (d_is_integer : DFact K "is_integer" s_is_integer f_is_integer)
    (d_is_between : DFact K "is_between" s_is_between f_is_between)
    (d_is_word : DFact K "is_word" s_is_word f_is_word)
    (d_is_text : DFact K "is_text" s_is_text f_is_text)
    (d_is_rules : DFact K "is_rules" s_is_rules f_is_rules)
    (d_is_rule : DFact K "is_rule" s_is_rule f_is_rule)
    (d_steps_of : DFact K "steps_of" s_steps_of f_steps_of)
    (d_endless_kind : DFact K "endless_kind" s_endless_kind f_endless_kind)
    (d_kinds_behind : DFact K "kinds_behind" s_kinds_behind f_kinds_behind)
    (d_bars_hold : DFact K "bars_hold" s_bars_hold f_bars_hold)
    (d_is_items : DFact K "is_items" s_is_items f_is_items)
    (d_is_item : DFact K "is_item" s_is_item f_is_item)
    (d_all_places : DFact K "all_places" s_all_places f_all_places)
    (d_has_whole : DFact K "has_whole" s_has_whole f_has_whole)
    (d_is_closed : DFact K "is_closed" s_is_closed f_is_closed)
    (d_many_by : DFact K "many_by" s_many_by f_many_by)
    (d_many_by_word : DFact K "many_by_word" s_many_by_word f_many_by_word)
    (d_many_by_one : DFact K "many_by_one" s_many_by_one f_many_by_one)
    (d_many_by_wrap : DFact K "many_by_wrap" s_many_by_wrap f_many_by_wrap)
    (d_many_by_ahead : DFact K "many_by_ahead" s_many_by_ahead f_many_by_ahead)
    (d_many_by_behind : DFact K "many_by_behind" s_many_by_behind f_many_by_behind)
    (d_many_of_text : DFact K "many_of_text" s_many_of_text f_many_of_text)
    (d_law_box : DFact K "_law_box" s_law_box f_law_box)
    (d_law_take : DFact K "_law_take" s_law_take f_law_take)
    (d_law_pick : DFact K "_law_pick" s_law_pick f_law_pick)
    (d_law_whole : DFact K "_law_whole" s_law_whole f_law_whole)
    (d_law_is_numbers : DFact K "_law_is_numbers" s_law_is_numbers f_law_is_numbers)
    (d_law_is_due : DFact K "_law_is_due" s_law_is_due f_law_is_due)
    (d_law_spoilt : DFact K "_law_spoilt" s_law_spoilt f_law_spoilt)
    (d_law_shuffled : DFact K "_law_shuffled" s_law_shuffled f_law_shuffled)
    (d_law_back_kind : DFact K "_law_back_kind" s_law_back_kind f_law_back_kind)
    (d_law_unary : DFact K "_law_unary" s_law_unary f_law_unary)
    (d_law_grammar : DFact K "_law_grammar" s_law_grammar f_law_grammar)
    (d_law_made : DFact K "_law_made" s_law_made f_law_made)
    (d_law_order : DFact K "_law_order" s_law_order f_law_order)
    (d_law_sorted_cells : DFact K "_law_sorted_cells" s_law_sorted_cells f_law_sorted_cells)
    (d_law_tally : DFact K "_law_tally" s_law_tally f_law_tally)
    (d_law_ways : DFact K "_law_ways" s_law_ways f_law_ways)
    (d_law_splits : DFact K "_law_splits" s_law_splits f_law_splits)
    (d_law_words : DFact K "_law_words" s_law_words f_law_words)
    (d_law_drawn_text : DFact K "_law_drawn_text" s_law_drawn_text f_law_drawn_text)
    (d_law_all_items : DFact K "_law_all_items" s_law_all_items f_law_all_items)
    (d_law_is_item : DFact K "_law_is_item" s_law_is_item f_law_is_item)
    (d_law_is_told : DFact K "_law_is_told" s_law_is_told f_law_is_told)
    (d_law_bar_text : DFact K "_law_bar_text" s_law_bar_text f_law_bar_text)
    (d_law_closed : DFact K "_law_closed" s_law_closed f_law_closed)
    (d_law : DFact K "law" s_law f_law)
    (tb : pairTab K c0 c1 c2 CP = true)
    (ni : noInts K = true) :
    ∃ fd : FuncData, (∀ (s : Shared) (v : Value), BindsTo s fd ⟨[v], []⟩ [("script", v)]) ∧ ∀ base : Heap, K.In base → base.Ns mainGlobals mg → FnOk l.prog w K mg base CX0 8 fa fd ["script"] (spLaw K) := by
  have e := hfa.symm.trans (PySem.W.mg_of X N d_law.a)
  cases e
  obtain ⟨fd, F⟩ := d_law.fn
  simp only [pairTab, Bool.and_eq_true, decide_eq_true_eq] at tb
  obtain ⟨q1, q2, q3, q4, q5, q6, q7, q8⟩ := tb
  refine ⟨fd, fun s v => ?_, fun base hK hN => ?_⟩
  · obtain ⟨oc, od, kV, doc, pm, an, cdv, ct, osl, rfl, lk, hcd⟩ := F.ex
    exact .of_eq rfl
  · have gG : mg "GraftError" = some (.ref G) := PySem.W.mg_of X N g.a
    have Zsum : mg "sum" = none := PySem.W.mg_none_of X N z_sum
    have Zsorted : mg "sorted" = none := PySem.W.mg_none_of X N z_sorted
    have TT : TC K mg :=
      { m_len := PySem.W.mg_none_of X N z_len,
        m_abs := PySem.W.mg_none_of X N z_abs,
        m_int := PySem.W.mg_none_of X N z_int,
        m_str := PySem.W.mg_none_of X N z_str,
        m_bool := PySem.W.mg_none_of X N z_bool,
        m_tuple := PySem.W.mg_none_of X N z_tuple,
        m_list := PySem.W.mg_none_of X N z_list,
        m_all := PySem.W.mg_none_of X N z_all,
        m_isinstance := PySem.W.mg_none_of X N z_isinstance,
        m_range := PySem.W.mg_none_of X N z_range,
        c_MOST_LETTERS := ⟨_, PySem.W.mg_of X N k_MOST_LETTERS⟩,
        c_MOST_KINDS := ⟨_, PySem.W.mg_of X N k_MOST_KINDS⟩,
        c_MOST_RULES := ⟨_, PySem.W.mg_of X N k_MOST_RULES⟩,
        w_WORD := ⟨by obtain ⟨W, h1, h2⟩ := w_WORD.ex; exact ⟨W, PySem.W.mg_of X N h1, h2⟩⟩,
        w_ONE := ⟨by obtain ⟨W, h1, h2⟩ := w_ONE.ex; exact ⟨W, PySem.W.mg_of X N h1, h2⟩⟩,
        w_TWO := ⟨by obtain ⟨W, h1, h2⟩ := w_TWO.ex; exact ⟨W, PySem.W.mg_of X N h1, h2⟩⟩ }
    have T : TP l.prog w K mg base c0 c1 c2 CP :=
      { toTC := TT,
        x_InvalidNumber := e0.at X N (fun f1 fd F => ok_InvalidNumber F gG g.rd g.gi e0.oc e0.no) (fun f1 fd F => F.binds fun _ _ _ _ _ _ us hl => match us, hl with | [_, _], _ => rfl),
        x_InvalidRules := e1.at X N (fun f1 fd F => ok_InvalidRules F gG g.rd g.gi e1.oc e1.no) (fun f1 fd F => F.binds fun _ _ _ _ _ _ us hl => match us, hl with | [_, _], _ => rfl),
        x_Endless := e2.at X N (fun f1 fd F => ok_Endless F gG g.rd g.gi e2.oc e2.no) (fun f1 fd F => F.binds fun _ _ _ _ _ _ us hl => match us, hl with | [_, _], _ => rfl),
        g_Pairs := PySem.W.mg_of X N pc.a,
        cl := pl.cl,
        nk := pl.nk,
        nr := pl.nr,
        ca := pl.ca,
        sg := pl.sg,
        tk := pl.tk,
        mo := pl.mo,
        kt1 := q7,
        kt2 := q8,
        m00 := q1,
        m10 := q2,
        m11 := q3,
        m20 := q4,
        m21 := q5,
        m22 := q6 }
    have C1 : Callee l.prog w K mg base "is_integer" 1 ["value"] (spInt K) := d_is_integer.callee X N (fun fd F => ok_is_integer F TT.toTB) (fun fd F => F.binds fun _ _ _ _ _ _ us hl => match us, hl with | [_], _ => rfl)
    have C2 : Callee l.prog w K mg base "is_between" 2 ["value", "low", "high"] (spBetween K) := d_is_between.callee X N (fun fd F => ok_is_between F TT.toTB C1) (fun fd F => F.binds fun _ _ _ _ _ _ us hl => match us, hl with | [_, _, _], _ => rfl)
    have C3 : Callee l.prog w K mg base "is_word" 1 ["value"] (spF K pre1 fWord) := d_is_word.callee X N (fun fd F => ok_is_word F TT) (fun fd F => F.binds fun _ _ _ _ _ _ us hl => match us, hl with | [_], _ => rfl)
    have D1 : Callee l.prog w K mg base "is_text" 2 ["value", "most"] (spF K (fun ds => ∃ d m, ds = [d, .int m]) fText) := d_is_text.callee X N (fun fd F => ok_is_text F TT C3) (fun fd F => F.binds fun _ _ _ _ _ _ us hl => match us, hl with | [_, _], _ => rfl)
    have C4 : Callee l.prog w K mg base "is_rule" 3 ["value", "kinds"] (spF K (fun ds => ∃ d n, ds = [d, .int n]) fRule) := d_is_rule.callee X N (fun fd F => ok_is_rule F TT C2 C3) (fun fd F => F.binds fun _ _ _ _ _ _ us hl => match us, hl with | [_, _], _ => rfl)
    have C5 : Callee l.prog w K mg base "is_rules" 4 ["value", "kinds"] (spF K (fun ds => ∃ d n, ds = [d, .int n]) fRules) := d_is_rules.callee X N (fun fd F => ok_is_rules F TT C4) (fun fd F => F.binds fun _ _ _ _ _ _ us hl => match us, hl with | [_, _], _ => rfl)
    have C6 : Callee l.prog w K mg base "steps_of" 1 ["kinds", "rules"] (spF K preS fSteps) := d_steps_of.callee X N (fun fd F => ok_steps_of F TT) (fun fd F => F.binds fun _ _ _ _ _ _ us hl => match us, hl with | [_, _], _ => rfl)
    have C7 : Callee l.prog w K mg base "kinds_behind" 1 ["steps", "kind"] (spKB K) := d_kinds_behind.callee X N (fun fd F => ok_kinds_behind F TT) (fun fd F => F.binds fun _ _ _ _ _ _ us hl => match us, hl with | [_, _], _ => rfl)
    have C8 : Callee l.prog w K mg base "endless_kind" 2 ["steps"] (spEK K) := d_endless_kind.callee X N (fun fd F => ok_endless_kind F TT C7) (fun fd F => F.binds fun _ _ _ _ _ _ us hl => match us, hl with | [_], _ => rfl)
    have P1 : Callee l.prog w K mg base "is_item" 3 ["value", "kinds", "words"] (spF K (fun ds => ∃ d n m, ds = [d, .int n, .int m]) fItem) := d_is_item.callee X N (fun fd F => ok_is_item F TT C2) (fun fd F => F.binds fun _ _ _ _ _ _ us hl => match us, hl with | [_, _, _], _ => rfl)
    have P2 : Callee l.prog w K mg base "is_items" 4 ["value", "kinds", "words"] (spF K (fun ds => ∃ d n m, ds = [d, .int n, .int m]) fItems) := d_is_items.callee X N (fun fd F => ok_is_items F TT P1) (fun fd F => F.binds fun _ _ _ _ _ _ us hl => match us, hl with | [_, _, _], _ => rfl)
    have P3 : Callee l.prog w K mg base "many_of_text" 1 ["kind", "begin", "end", "counts"] (spMT K) := d_many_of_text.callee X N (fun fd F => ok_many_of_text F TT Zsum) (fun fd F => F.binds fun _ _ _ _ _ _ us hl => match us, hl with | [_, _, _, _], _ => rfl)
    have P4 : Callee l.prog w K mg base "has_whole" 2 ["counts", "words"] (spHW K) := d_has_whole.callee X N (fun fd F => ok_has_whole F P3) (fun fd F => F.binds fun _ _ _ _ _ _ us hl => match us, hl with | [_, _], _ => rfl)
    have P5 : Callee l.prog w K mg base "many_by_one" 2 ["rule", "places", "counts"] (spM1 K) := d_many_by_one.callee X N (fun fd F => ok_many_by_one F TT P3) (fun fd F => F.binds fun _ _ _ _ _ _ us hl => match us, hl with | [_, _, _], _ => rfl)
    have P6 : Callee l.prog w K mg base "many_by_ahead" 2 ["rule", "places", "counts"] (spM2 K aheadM) := d_many_by_ahead.callee X N (fun fd F => ok_many_by_ahead F TT P3) (fun fd F => F.binds fun _ _ _ _ _ _ us hl => match us, hl with | [_, _, _], _ => rfl)
    have P7 : Callee l.prog w K mg base "many_by_behind" 2 ["rule", "places", "counts"] (spM2 K behindM) := d_many_by_behind.callee X N (fun fd F => ok_many_by_behind F TT P3) (fun fd F => F.binds fun _ _ _ _ _ _ us hl => match us, hl with | [_, _, _], _ => rfl)
    have P8 : Callee l.prog w K mg base "many_by_wrap" 1 ["rule", "places", "counts"] (spM2 K wrapM) := d_many_by_wrap.callee X N (fun fd F => ok_many_by_wrap F TT) (fun fd F => F.binds fun _ _ _ _ _ _ us hl => match us, hl with | [_, _, _], _ => rfl)
    have P9 : Callee l.prog w K mg base "many_by_word" 1 ["rule", "text", "places"] (spMW K) := d_many_by_word.callee X N (fun fd F => ok_many_by_word F TT) (fun fd F => F.binds fun _ _ _ _ _ _ us hl => match us, hl with | [_, _, _], _ => rfl)
    have P10 : Callee l.prog w K mg base "many_by" 3 ["rule", "text", "places", "counts"] (spMB K) := d_many_by.callee X N (fun fd F => ok_many_by F TT P9 P5 P8 P6 P7) (fun fd F => F.binds fun _ _ _ _ _ _ us hl => match us, hl with | [_, _, _, _], _ => rfl)
    have P11 : Callee l.prog w K mg base "all_places" 1 ["words"] (spF K prePl fPlaces) := d_all_places.callee X N (fun fd F => ok_all_places F TT) (fun fd F => F.binds fun _ _ _ _ _ _ us hl => match us, hl with | [_], _ => rfl)
    have P12 : Callee l.prog w K mg base "is_closed" 4 ["pairs", "text", "held"] (spIC K CP) := d_is_closed.callee X N (fun fd F => ok_is_closed F T ni P11 P10) (fun fd F => F.binds fun _ _ _ _ _ _ us hl => match us, hl with | [_, _, _], _ => rfl)
    have P13 : Callee l.prog w K mg base "bars_hold" 5 ["pairs", "text", "value"] (spBH K CP) := d_bars_hold.callee X N (fun fd F => ok_bars_hold F T ⟨_, PySem.W.mg_of X N k_MOST_WORDS⟩ ni D1 P2 P4 P12) (fun fd F => F.binds fun _ _ _ _ _ _ us hl => match us, hl with | [_, _, _], _ => rfl)
    have C9 : Callee l.prog w K mg base "_law_box" 1 ["script", "k"] (spBoxN K) := d_law_box.callee X N (fun fd F => ok_box F TT.toTB) (fun fd F => F.binds fun _ _ _ _ _ _ us hl => match us, hl with | [_, _], _ => rfl)
    have C10 : Callee l.prog w K mg base "_law_take" 1 ["box", "many"] (spTake K) := d_law_take.callee X N (fun fd F => ok_take F TT.toTB) (fun fd F => F.binds fun _ _ _ _ _ _ us hl => match us, hl with | [_, _], _ => rfl)
    have C11 : Callee l.prog w K mg base "_law_pick" 2 ["box", "some"] (spPick K) := d_law_pick.callee X N (fun fd F => ok_pick F TT.toTB C10) (fun fd F => F.binds fun _ _ _ _ _ _ us hl => match us, hl with | [_, _], _ => rfl)
    have C12 : Callee l.prog w K mg base "_law_whole" 1 ["value"] (spInt K) := d_law_whole.callee X N (fun fd F => ok_law_whole F TT) (fun fd F => F.binds fun _ _ _ _ _ _ us hl => match us, hl with | [_], _ => rfl)
    have C13 : Callee l.prog w K mg base "_law_is_numbers" 2 ["value", "many"] (spF K (fun ds => ∃ d n, ds = [d, .int n] ∧ Sm 60 d) fNums) := d_law_is_numbers.callee X N (fun fd F => ok_law_is_numbers F TT C12) (fun fd F => F.binds fun _ _ _ _ _ _ us hl => match us, hl with | [_, _], _ => rfl)
    have C14 : Callee l.prog w K mg base "_law_is_due" 1 ["told", "due"] (spF K (fun ds => ∃ a b, ds = [.bool a, .bool b]) fIs) := d_law_is_due.callee X N (fun fd F => ok_law_is_due F TT) (fun fd F => F.binds fun _ _ _ _ _ _ us hl => match us, hl with | [_, _], _ => rfl)
    have C17 : Callee l.prog w K mg base "_law_unary" 1 ["rules"] (spF K preUn fUn) := d_law_unary.callee X N (fun fd F => ok_law_unary F TT) (fun fd F => F.binds fun _ _ _ _ _ _ us hl => match us, hl with | [_], _ => rfl)
    have C18 : Callee l.prog w K mg base "_law_back_kind" 1 ["steps", "kinds"] (spF K preBack fBack) := d_law_back_kind.callee X N (fun fd F => ok_law_back_kind F TT) (fun fd F => F.binds fun _ _ _ _ _ _ us hl => match us, hl with | [_, _], _ => rfl)
    have C20 : Callee l.prog w K mg base "_law_spoilt" 3 ["box", "value", "deep"] (spSpoil K 0) := d_law_spoilt.callee X N (fun fd F => ok_spoilt0 F TT C10 C11 C12) (fun fd F => F.binds fun _ _ _ _ _ _ us hl => match us, hl with | [_, _, _], _ => rfl)
    have C21 : Callee l.prog w K mg base "_law_spoilt" 4 ["box", "value", "deep"] (spSpoil K 1) := d_law_spoilt.callee X N (fun fd F => ok_spoiltS 0 F TT C10 C11 C12 C20 (by decide)) (fun fd F => F.binds fun _ _ _ _ _ _ us hl => match us, hl with | [_, _, _], _ => rfl)
    have C22 : Callee l.prog w K mg base "_law_spoilt" 5 ["box", "value", "deep"] (spSpoil K 2) := d_law_spoilt.callee X N (fun fd F => ok_spoiltS 1 F TT C10 C11 C12 C21 (by decide)) (fun fd F => F.binds fun _ _ _ _ _ _ us hl => match us, hl with | [_, _, _], _ => rfl)
    have C23 : Callee l.prog w K mg base "_law_shuffled" 2 ["box", "some"] (spShuf K) := d_law_shuffled.callee X N (fun fd F => ok_shuffled F TT C10) (fun fd F => F.binds fun _ _ _ _ _ _ us hl => match us, hl with | [_, _], _ => rfl)
    have C24 : Callee l.prog w K mg base "_law_grammar" 3 ["script", "most"] (spGram K) := d_law_grammar.callee X N (fun fd F => ok_grammar F TT C9 C10 C11 C17 C18 C23) (fun fd F => F.binds fun _ _ _ _ _ _ us hl => match us, hl with | [_, _], _ => rfl)
    have E1 : Callee l.prog w K mg base "_law_words" 1 ["grammar"] (spWords K) := d_law_words.callee X N (fun fd F => ok_law_words F TT) (fun fd F => F.binds fun _ _ _ _ _ _ us hl => match us, hl with | [_], _ => rfl)
    have E2 : Callee l.prog w K mg base "_law_drawn_text" 3 ["box", "grammar", "most"] (spDrawn K) := d_law_drawn_text.callee X N (fun fd F => ok_drawn F TT C10 C11 E1) (fun fd F => F.binds fun _ _ _ _ _ _ us hl => match us, hl with | [_, _, _], _ => rfl)
    have G1 : Callee l.prog w K mg base "_law_order" 2 ["kinds", "rules"] (spF K preOrd fOrd) := d_law_order.callee X N (fun fd F => ok_law_order F TT C17) (fun fd F => F.binds fun _ _ _ _ _ _ us hl => match us, hl with | [_, _], _ => rfl)
    have G2 : Callee l.prog w K mg base "_law_sorted_cells" 1 ["n"] (spF K preCl fCells) := d_law_sorted_cells.callee X N (fun fd F => ok_law_sorted_cells F TT) (fun fd F => F.binds fun _ _ _ _ _ _ us hl => match us, hl with | [_], _ => rfl)
    have G3 : Callee l.prog w K mg base "_law_splits" 1 ["rule", "cell"] (spF K preSpl fSpl) := d_law_splits.callee X N (fun fd F => ok_law_splits F TT) (fun fd F => F.binds fun _ _ _ _ _ _ us hl => match us, hl with | [_, _], _ => rfl)
    have G4 : Callee l.prog w K mg base "_law_ways" 2 ["rule", "cell", "text", "found"] (spLW K) := d_law_ways.callee X N (fun fd F => ok_law_ways F TT Zsum ni G3) (fun fd F => F.binds fun _ _ _ _ _ _ us hl => match us, hl with | [_, _, _, _], _ => rfl)
    have G5 : Callee l.prog w K mg base "_law_tally" 3 ["grammar", "text"] (spTY K) := d_law_tally.callee X N (fun fd F => ok_law_tally F TT Zsum ni G1 G2 G4) (fun fd F => F.binds fun _ _ _ _ _ _ us hl => match us, hl with | [_, _], _ => rfl)
    have G6 : Callee l.prog w K mg base "_law_all_items" 4 ["grammar", "text"] (spAI K) := d_law_all_items.callee X N (fun fd F => ok_law_all_items F TT Zsorted G5) (fun fd F => F.binds fun _ _ _ _ _ _ us hl => match us, hl with | [_, _], _ => rfl)
    have G7 : Callee l.prog w K mg base "_law_is_item" 3 ["value", "kinds", "n"] (spF K preLI fItem) := d_law_is_item.callee X N (fun fd F => ok_law_is_item F TT C13) (fun fd F => F.binds fun _ _ _ _ _ _ us hl => match us, hl with | [_, _, _], _ => rfl)
    have G8 : Callee l.prog w K mg base "_law_is_told" 1 ["value", "n"] (spF K preTold fTold) := d_law_is_told.callee X N (fun fd F => ok_law_is_told F TT) (fun fd F => F.binds fun _ _ _ _ _ _ us hl => match us, hl with | [_, _], _ => rfl)
    have G9 : Callee l.prog w K mg base "_law_bar_text" 4 ["grammar", "text", "value"] (spBT K) := d_law_bar_text.callee X N (fun fd F => ok_law_bar_text F TT ni G7 G8 G2 G4) (fun fd F => F.binds fun _ _ _ _ _ _ us hl => match us, hl with | [_, _, _], _ => rfl)
    have G10 : Callee l.prog w K mg base "_law_closed" 3 ["grammar", "text", "value"] (spCL K) := d_law_closed.callee X N (fun fd F => ok_law_closed F TT ni Zsorted G2 G4) (fun fd F => F.binds fun _ _ _ _ _ _ us hl => match us, hl with | [_, _, _], _ => rfl)
    obtain ⟨fI, fdI, M, FI⟩ := pc.made
    have bP : L2.Binds K fdI ["self", "kinds", "rules"] [] := FI.binds fun _ _ _ _ _ _ us hl => match us, hl with | [_, _, _], _ => rfl
    have GP : FnOk l.prog w K mg base (L2.CX l.prog w) 5 fI fdI ["self", "kinds", "rules"] (spPairs K CP c0 c1 c2) := ok_pairs FI T C2 C5 C8 C6
    have C25 : Callee l.prog w K mg base "_law_made" 7 ["grammar"] (spMade K CP) := d_law_made.callee X N (fun fd F => ok_law_made F T M GP bP) (fun fd F => F.binds fun _ _ _ _ _ _ us hl => match us, hl with | [_], _ => rfl)
    exact ok_law F T Zsorted C24 C9 C10 C11 C25 E2 C22 C14 G6 G2 G10 G8 G9 P13
theorem walk {l : PySem.W.OpenLaw} {q : Program} {loose : List Str} {XP : (Str → Option Value) → Heap → Prop} {YP : World → Heap → Prop} {d : DefRec} {K : Params → PySem.W.Frag} (hn : l.most = some 63) (hdf : d.params.defaults = [])
    (hY : ∀ (w : World) (h : Heap), YP w h → (K w.params).In h)
    (F : ∀ (w : World) (mg : Str → Option Value) (fa : Addr) (h : Heap), (K w.params).In h → h.Ns mainGlobals mg → mg d.name = some (.ref fa) →
      ∃ fd : FuncData, (∀ (s : Shared) (u : Value), BindsTo s fd ⟨[u], []⟩ [("script", u)]) ∧ ∀ base : Heap, (K w.params).In base → base.Ns mainGlobals mg → FnOk l.prog w (K w.params) mg base CX0 8 fa fd ["script"] (spLaw (K w.params))) :
    PySem.W.WalkO q loose XP YP l.row.toRowW d [] (fun f vs => PySem.call f vs) :=
  L2.walk_of (n := 63) (k := 8) (x := "script") (CX := fun _ => CX0) (sp := fun w => spLaw (K w.params)) hn (by decide) hdf ⟨rfl, by decide, by decide⟩ hY F (fun _ _ a ns hl _ hS => ⟨a, ns, rfl, hS, hl, fun _ => rfl⟩) fun _ _ _ _ _ z => z
end K12

open PySem PySem.W PyProof.Rows Dx in
set_option maxRecDepth 100000 in
set_option maxHeartbeats 0 in
theorem PySem.Challenge.cw_treestacks_k12_bars_looked_at_holds : PySem.Challenge.rw_treestacks_k12_bars_looked_at.Holds := by
  w_on; o_law; k_head; (case hw => w_witness2)
  k_fill
  refine K12.walk (l := PySem.Challenge.rw_treestacks_k12_bars_looked_at) rfl rfl (fun w h Y => PySem.W.kIn_of Y) ?F
  case F =>
    intro w mg fa h KX G hmg
    refine' K12.all_mk KX G hmg ?e0 ?e1 ?e2 ?g ?z_len ?z_abs ?z_int ?z_str ?z_bool ?z_tuple ?z_list ?z_all ?z_isinstance ?z_range ?z_sum ?z_sorted ?k_MOST_WORDS ?k_MOST_LETTERS ?k_MOST_KINDS ?k_MOST_RULES ?w_WORD ?w_ONE ?w_TWO ?pc ?pl ?d_is_integer ?d_is_between ?d_is_word ?d_is_text ?d_is_rules ?d_is_rule ?d_steps_of ?d_endless_kind ?d_kinds_behind ?d_bars_hold ?d_is_items ?d_is_item ?d_all_places ?d_has_whole ?d_is_closed ?d_many_by ?d_many_by_word ?d_many_by_one ?d_many_by_wrap ?d_many_by_ahead ?d_many_by_behind ?d_many_of_text ?d_law_box ?d_law_take ?d_law_pick ?d_law_whole ?d_law_is_numbers ?d_law_is_due ?d_law_spoilt ?d_law_shuffled ?d_law_back_kind ?d_law_unary ?d_law_grammar ?d_law_made ?d_law_order ?d_law_sorted_cells ?d_law_tally ?d_law_ways ?d_law_splits ?d_law_words ?d_law_drawn_text ?d_law_all_items ?d_law_is_item ?d_law_is_told ?d_law_bar_text ?d_law_closed ?d_law ?tb ?ni
    (case e0 => (refine' xfact_mk ?aC ?xL ?hbm ?sa ?ga ?gg ?nb ?a1 ?t1 ?l1 ?c1 ?k1 ?kC ?eC ?tC ?hC ?iC ?ca ?sg ?tk ?mo; (case aC => k_is); (case xL => k_is); (case hbm => decide +kernel); (case sa => k_is); (case ga => k_is); (case gg => k_is); (case nb => k_is); (case a1 => k_is); (case t1 => k_is); (case l1 => k_is); (case c1 => k_is); (case k1 => k_is); (case kC => k_is); (case eC => k_is); (case tC => k_is); (case hC => k_is); (case iC => k_is); (case ca => k_is); (case sg => k_is); (case tk => k_is); (case mo => k_is)))
    (case e1 => (refine' xfact_mk ?aC ?xL ?hbm ?sa ?ga ?gg ?nb ?a1 ?t1 ?l1 ?c1 ?k1 ?kC ?eC ?tC ?hC ?iC ?ca ?sg ?tk ?mo; (case aC => k_is); (case xL => k_is); (case hbm => decide +kernel); (case sa => k_is); (case ga => k_is); (case gg => k_is); (case nb => k_is); (case a1 => k_is); (case t1 => k_is); (case l1 => k_is); (case c1 => k_is); (case k1 => k_is); (case kC => k_is); (case eC => k_is); (case tC => k_is); (case hC => k_is); (case iC => k_is); (case ca => k_is); (case sg => k_is); (case tk => k_is); (case mo => k_is)))
    (case e2 => (refine' xfact_mk ?aC ?xL ?hbm ?sa ?ga ?gg ?nb ?a1 ?t1 ?l1 ?c1 ?k1 ?kC ?eC ?tC ?hC ?iC ?ca ?sg ?tk ?mo; (case aC => k_is); (case xL => k_is); (case hbm => decide +kernel); (case sa => k_is); (case ga => k_is); (case gg => k_is); (case nb => k_is); (case a1 => k_is); (case t1 => k_is); (case l1 => k_is); (case c1 => k_is); (case k1 => k_is); (case kC => k_is); (case eC => k_is); (case tC => k_is); (case hC => k_is); (case iC => k_is); (case ca => k_is); (case sg => k_is); (case tk => k_is); (case mo => k_is)))
    (case g => (refine' gfact_mk ?a ?r1 ?r2 ?gi ?eC ?hC ?tC; (case a => k_is); (case r1 => k_is); (case r2 => k_is); (case gi => k_is); (case eC => k_is); (case hC => k_is); (case tC => k_is)))
    (case z_len => k_is)
    (case z_abs => k_is)
    (case z_int => k_is)
    (case z_str => k_is)
    (case z_bool => k_is)
    (case z_tuple => k_is)
    (case z_list => k_is)
    (case z_all => k_is)
    (case z_isinstance => k_is)
    (case z_range => k_is)
    (case z_sum => k_is)
    (case z_sorted => k_is)
    (case k_MOST_WORDS => k_is)
    (case k_MOST_LETTERS => k_is)
    (case k_MOST_KINDS => k_is)
    (case k_MOST_RULES => k_is)
    (case w_WORD => (refine' K12.tfact2 ?h ?l (by decide) (by decide); (case h => k_is); (case l => k_is)))
    (case w_ONE => (refine' K12.tfact3 ?h ?l (by decide) (by decide) (by decide); (case h => k_is); (case l => k_is)))
    (case w_TWO => (refine' K12.tfact3 ?h ?l (by decide) (by decide) (by decide); (case h => k_is); (case l => k_is)))
    (case pc => (refine' cfact_mk ?a ?mk ?a1 ?i1 ?kc ?l1 ?c1 ?k1; (case a => k_is); (case mk => k_is); (case a1 => k_is); (case i1 => k_is); (case kc => k_is); (case l1 => k_is); (case c1 => k_is); (case k1 => k_is)))
    (case pl => (refine' K12.pfact_mk ?pg ?hd ?po ?sa ?nk ?nr ?ca ?sg ?tk ?mo; (case pg => k_is); (case hd => k_is); (case po => k_is); (case sa => k_is); (case nk => k_is); (case nr => k_is); (case ca => k_is); (case sg => k_is); (case tk => k_is); (case mo => k_is)))
    (case d_is_integer => (refine' dfact_mk ?a ?l1 ?c1 ?k1; (case a => k_is); (case l1 => k_is); (case c1 => k_is); (case k1 => k_is)))
    (case d_is_between => (refine' dfact_mk ?a ?l1 ?c1 ?k1; (case a => k_is); (case l1 => k_is); (case c1 => k_is); (case k1 => k_is)))
    (case d_is_word => (refine' dfact_mk ?a ?l1 ?c1 ?k1; (case a => k_is); (case l1 => k_is); (case c1 => k_is); (case k1 => k_is)))
    (case d_is_text => (refine' dfact_mk ?a ?l1 ?c1 ?k1; (case a => k_is); (case l1 => k_is); (case c1 => k_is); (case k1 => k_is)))
    (case d_is_rules => (refine' dfact_mk ?a ?l1 ?c1 ?k1; (case a => k_is); (case l1 => k_is); (case c1 => k_is); (case k1 => k_is)))
    (case d_is_rule => (refine' dfact_mk ?a ?l1 ?c1 ?k1; (case a => k_is); (case l1 => k_is); (case c1 => k_is); (case k1 => k_is)))
    (case d_steps_of => (refine' dfact_mk ?a ?l1 ?c1 ?k1; (case a => k_is); (case l1 => k_is); (case c1 => k_is); (case k1 => k_is)))
    (case d_endless_kind => (refine' dfact_mk ?a ?l1 ?c1 ?k1; (case a => k_is); (case l1 => k_is); (case c1 => k_is); (case k1 => k_is)))
    (case d_kinds_behind => (refine' dfact_mk ?a ?l1 ?c1 ?k1; (case a => k_is); (case l1 => k_is); (case c1 => k_is); (case k1 => k_is)))
    (case d_bars_hold => (refine' dfact_mk ?a ?l1 ?c1 ?k1; (case a => k_is); (case l1 => k_is); (case c1 => k_is); (case k1 => k_is)))
    (case d_is_items => (refine' dfact_mk ?a ?l1 ?c1 ?k1; (case a => k_is); (case l1 => k_is); (case c1 => k_is); (case k1 => k_is)))
    (case d_is_item => (refine' dfact_mk ?a ?l1 ?c1 ?k1; (case a => k_is); (case l1 => k_is); (case c1 => k_is); (case k1 => k_is)))
    (case d_all_places => (refine' dfact_mk ?a ?l1 ?c1 ?k1; (case a => k_is); (case l1 => k_is); (case c1 => k_is); (case k1 => k_is)))
    (case d_has_whole => (refine' dfact_mk ?a ?l1 ?c1 ?k1; (case a => k_is); (case l1 => k_is); (case c1 => k_is); (case k1 => k_is)))
    (case d_is_closed => (refine' dfact_mk ?a ?l1 ?c1 ?k1; (case a => k_is); (case l1 => k_is); (case c1 => k_is); (case k1 => k_is)))
    (case d_many_by => (refine' dfact_mk ?a ?l1 ?c1 ?k1; (case a => k_is); (case l1 => k_is); (case c1 => k_is); (case k1 => k_is)))
    (case d_many_by_word => (refine' dfact_mk ?a ?l1 ?c1 ?k1; (case a => k_is); (case l1 => k_is); (case c1 => k_is); (case k1 => k_is)))
    (case d_many_by_one => (refine' dfact_mk ?a ?l1 ?c1 ?k1; (case a => k_is); (case l1 => k_is); (case c1 => k_is); (case k1 => k_is)))
    (case d_many_by_wrap => (refine' dfact_mk ?a ?l1 ?c1 ?k1; (case a => k_is); (case l1 => k_is); (case c1 => k_is); (case k1 => k_is)))
    (case d_many_by_ahead => (refine' dfact_mk ?a ?l1 ?c1 ?k1; (case a => k_is); (case l1 => k_is); (case c1 => k_is); (case k1 => k_is)))
    (case d_many_by_behind => (refine' dfact_mk ?a ?l1 ?c1 ?k1; (case a => k_is); (case l1 => k_is); (case c1 => k_is); (case k1 => k_is)))
    (case d_many_of_text => (refine' dfact_mk ?a ?l1 ?c1 ?k1; (case a => k_is); (case l1 => k_is); (case c1 => k_is); (case k1 => k_is)))
    (case d_law_box => (refine' dfact_mk ?a ?l1 ?c1 ?k1; (case a => k_is); (case l1 => k_is); (case c1 => k_is); (case k1 => k_is)))
    (case d_law_take => (refine' dfact_mk ?a ?l1 ?c1 ?k1; (case a => k_is); (case l1 => k_is); (case c1 => k_is); (case k1 => k_is)))
    (case d_law_pick => (refine' dfact_mk ?a ?l1 ?c1 ?k1; (case a => k_is); (case l1 => k_is); (case c1 => k_is); (case k1 => k_is)))
    (case d_law_whole => (refine' dfact_mk ?a ?l1 ?c1 ?k1; (case a => k_is); (case l1 => k_is); (case c1 => k_is); (case k1 => k_is)))
    (case d_law_is_numbers => (refine' dfact_mk ?a ?l1 ?c1 ?k1; (case a => k_is); (case l1 => k_is); (case c1 => k_is); (case k1 => k_is)))
    (case d_law_is_due => (refine' dfact_mk ?a ?l1 ?c1 ?k1; (case a => k_is); (case l1 => k_is); (case c1 => k_is); (case k1 => k_is)))
    (case d_law_spoilt => (refine' dfact_mk ?a ?l1 ?c1 ?k1; (case a => k_is); (case l1 => k_is); (case c1 => k_is); (case k1 => k_is)))
    (case d_law_shuffled => (refine' dfact_mk ?a ?l1 ?c1 ?k1; (case a => k_is); (case l1 => k_is); (case c1 => k_is); (case k1 => k_is)))
    (case d_law_back_kind => (refine' dfact_mk ?a ?l1 ?c1 ?k1; (case a => k_is); (case l1 => k_is); (case c1 => k_is); (case k1 => k_is)))
    (case d_law_unary => (refine' dfact_mk ?a ?l1 ?c1 ?k1; (case a => k_is); (case l1 => k_is); (case c1 => k_is); (case k1 => k_is)))
    (case d_law_grammar => (refine' dfact_mk ?a ?l1 ?c1 ?k1; (case a => k_is); (case l1 => k_is); (case c1 => k_is); (case k1 => k_is)))
    (case d_law_made => (refine' dfact_mk ?a ?l1 ?c1 ?k1; (case a => k_is); (case l1 => k_is); (case c1 => k_is); (case k1 => k_is)))
    (case d_law_order => (refine' dfact_mk ?a ?l1 ?c1 ?k1; (case a => k_is); (case l1 => k_is); (case c1 => k_is); (case k1 => k_is)))
    (case d_law_sorted_cells => (refine' dfact_mk ?a ?l1 ?c1 ?k1; (case a => k_is); (case l1 => k_is); (case c1 => k_is); (case k1 => k_is)))
    (case d_law_tally => (refine' dfact_mk ?a ?l1 ?c1 ?k1; (case a => k_is); (case l1 => k_is); (case c1 => k_is); (case k1 => k_is)))
    (case d_law_ways => (refine' dfact_mk ?a ?l1 ?c1 ?k1; (case a => k_is); (case l1 => k_is); (case c1 => k_is); (case k1 => k_is)))
    (case d_law_splits => (refine' dfact_mk ?a ?l1 ?c1 ?k1; (case a => k_is); (case l1 => k_is); (case c1 => k_is); (case k1 => k_is)))
    (case d_law_words => (refine' dfact_mk ?a ?l1 ?c1 ?k1; (case a => k_is); (case l1 => k_is); (case c1 => k_is); (case k1 => k_is)))
    (case d_law_drawn_text => (refine' dfact_mk ?a ?l1 ?c1 ?k1; (case a => k_is); (case l1 => k_is); (case c1 => k_is); (case k1 => k_is)))
    (case d_law_all_items => (refine' dfact_mk ?a ?l1 ?c1 ?k1; (case a => k_is); (case l1 => k_is); (case c1 => k_is); (case k1 => k_is)))
    (case d_law_is_item => (refine' dfact_mk ?a ?l1 ?c1 ?k1; (case a => k_is); (case l1 => k_is); (case c1 => k_is); (case k1 => k_is)))
    (case d_law_is_told => (refine' dfact_mk ?a ?l1 ?c1 ?k1; (case a => k_is); (case l1 => k_is); (case c1 => k_is); (case k1 => k_is)))
    (case d_law_bar_text => (refine' dfact_mk ?a ?l1 ?c1 ?k1; (case a => k_is); (case l1 => k_is); (case c1 => k_is); (case k1 => k_is)))
    (case d_law_closed => (refine' dfact_mk ?a ?l1 ?c1 ?k1; (case a => k_is); (case l1 => k_is); (case c1 => k_is); (case k1 => k_is)))
    (case d_law => (refine' dfact_mk ?a ?l1 ?c1 ?k1; (case a => k_is); (case l1 => k_is); (case c1 => k_is); (case k1 => k_is)))
    (case tb => kernel_rfl)
    (case ni => kernel_rfl)
