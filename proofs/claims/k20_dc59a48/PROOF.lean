import PyProof.Rows.All
import Wide.All
import OpenK.AllK
import Wide.FinOn
import PyProof.EqAt
import PyProof.EqKinds
import PyProof.TupleCall
import HandS.ForMost
import HandS.ForExc
import HandS.Evl
import HandS.TupAny
import HandS.IsInst
import HandS.Deep
import HandS.Flow
import HandS.Style
import HandS.TupMul
import KE.KExcIs
import HandS.ExcInit
import HandS.ClsMeth
import HandS.ExcField
import HandS.ExcIs
import HandS.TryMany
import HandS.OwnEq
import HandS.More
import HandS.Text
import HandS.Rev
import HandS.RevTup
import HandS.SetFor
import HandS.List
import KE.DataCmp
import PyProof.FitsBits
import PySem.Challenge.RW_treestacks_k20_trees
set_option Elab.async false
set_option linter.all false
set_option maxRecDepth 100000
set_option maxHeartbeats 8000000
/-! Values of a program as plain data: what an expression evaluates to, over heaps that grow. -/
namespace Dx
open PySem PySem.Spec PyProof.Rows L2 Evl

/-! ### data that a value stands for -/
mutual
inductive Dd (K : PySem.W.Frag) (H : Hp) : V → PyData → Prop
  | non : Dd K H .non .none
  | bl (b : Bool) : Dd K H (.bl b) (.bool b)
  | int (i : Int) : Dd K H (.int i) (.int i)
  | str (x : Str) : x.length ≤ sizeLine → Dd K H (.str x) (.str x)
  | lst {a : Addr} {xs : List V} {ds : List PyData} : H a = some (.lst xs) → xs.length ≤ sizeLine → DdAll K H xs ds → Dd K H (.ref a) (.list ds)
  | tup {a : Addr} {xs : List V} {ds : List PyData} : SqT K H a xs → xs.length ≤ sizeLine → DdAll K H xs ds → Dd K H (.ref a) (.tuple ds)
inductive DdAll (K : PySem.W.Frag) (H : Hp) : List V → List PyData → Prop
  | nil : DdAll K H [] []
  | cons {v : V} {vs : List V} {d : PyData} {ds : List PyData} : Dd K H v d → DdAll K H vs ds → DdAll K H (v :: vs) (d :: ds)
end
section
variable {K : PySem.W.Frag} {H H' : Hp}
mutual
theorem Dd.mono (e : Ex H H') : ∀ (d : PyData) (v : V), Dd K H v d → Dd K H' v d
  | .none, _, h => by cases h; exact .non
  | .bool b, _, h => by cases h; exact .bl b
  | .int i, _, h => by cases h; exact .int i
  | .str x, _, h => by
    cases h with
    | str _ hl => exact .str x hl
  | .list ds, _, h => by
    cases h with
    | lst hs hl ha => exact .lst (e _ _ hs) hl (DdAll.mono e ds _ ha)
  | .tuple ds, _, h => by
    cases h with
    | tup hs hl ha => exact .tup (ex_t e hs) hl (DdAll.mono e ds _ ha)
  | .dict _, _, h => by cases h
theorem DdAll.mono (e : Ex H H') : ∀ (ds : List PyData) (vs : List V), DdAll K H vs ds → DdAll K H' vs ds
  | [], _, h => by cases h; exact .nil
  | d :: ds, _, h => by
    cases h with
    | cons h1 h2 => exact .cons (Dd.mono e d _ h1) (DdAll.mono e ds _ h2)
end
theorem Dd.up {v : V} {d : PyData} (h : Dd K H v d) (e : Ex H H') : Dd K H' v d := Dd.mono e d v h
theorem DdAll.up {vs : List V} {ds : List PyData} (h : DdAll K H vs ds) (e : Ex H H') : DdAll K H' vs ds := DdAll.mono e ds vs h
mutual
theorem Dd.dp : ∀ (d : PyData) (v : V), Dd K H v d → Dp K H v d
  | .none, _, h => by cases h; exact .non
  | .bool b, _, h => by cases h; exact .bl b
  | .int i, _, h => by cases h; exact .int i
  | .str x, _, h => by
    cases h with
    | str _ hl => exact .str x
  | .list ds, _, h => by
    cases h with
    | lst hs hl ha => exact .lst (sq_of hs) (DdAll.dp ds _ ha)
  | .tuple ds, _, h => by
    cases h with
    | tup hs hl ha => exact .tup hs (DdAll.dp ds _ ha)
  | .dict _, _, h => by cases h
theorem DdAll.dp : ∀ (ds : List PyData) (vs : List V), DdAll K H vs ds → DpAll K H vs ds
  | [], _, h => by cases h; exact .nil
  | d :: ds, _, h => by
    cases h with
    | cons h1 h2 => exact .cons (Dd.dp d _ h1) (DdAll.dp ds _ h2)
end
theorem DdAll.len : ∀ {vs : List V} {ds : List PyData}, DdAll K H vs ds → vs.length = ds.length
  | _, _, .nil => rfl
  | _, _, .cons _ t => by
    rw [List.length_cons, List.length_cons, DdAll.len t]
theorem DdAll.app : ∀ {vs us : List V} {ds es : List PyData}, DdAll K H vs ds → DdAll K H us es → DdAll K H (vs ++ us) (ds ++ es)
  | _, _, _, _, .nil, h => h
  | _, _, _, _, .cons a t, h => .cons a (DdAll.app t h)
theorem DdAll.get : ∀ {vs : List V} {ds : List PyData} {i : Nat} {d : PyData}, DdAll K H vs ds → ds[i]? = some d → ∃ v, vs[i]? = some v ∧ Dd K H v d
  | _, _, _, _, .nil, e => by simp at e
  | _, _, 0, _, .cons a _, e => by
    simp at e
    subst e
    exact ⟨_, rfl, a⟩
  | _, _, i + 1, d, .cons _ t, e => by
    obtain ⟨v, h1, h2⟩ := DdAll.get (i := i) (d := d) t (by simpa using e)
    exact ⟨v, by simpa using h1, h2⟩
theorem DdAll.getv : ∀ {vs : List V} {ds : List PyData} {i : Nat} {v : V}, DdAll K H vs ds → vs[i]? = some v → ∃ d, ds[i]? = some d ∧ Dd K H v d
  | _, _, _, _, .nil, e => by simp at e
  | _, _, 0, _, .cons a _, e => by
    simp at e
    subst e
    exact ⟨_, rfl, a⟩
  | _, _, i + 1, d, .cons _ t, e => by
    obtain ⟨v, h1, h2⟩ := DdAll.getv (i := i) (v := d) t (by simpa using e)
    exact ⟨v, by simpa using h1, h2⟩
theorem DdAll.take : ∀ {vs : List V} {ds : List PyData} (n : Nat), DdAll K H vs ds → DdAll K H (vs.take n) (ds.take n)
  | _, _, 0, _ => .nil
  | _, _, _ + 1, .nil => .nil
  | _, _, n + 1, .cons r t => .cons r (DdAll.take n t)
theorem DdAll.drop : ∀ {vs : List V} {ds : List PyData} (n : Nat), DdAll K H vs ds → DdAll K H (vs.drop n) (ds.drop n)
  | _, _, 0, r => r
  | _, _, _ + 1, .nil => .nil
  | _, _, n + 1, .cons _ t => DdAll.drop n t
theorem DdAll.snoc {vs : List V} {ds : List PyData} {v : V} {d : PyData} (h : DdAll K H vs ds) (g : Dd K H v d) : DdAll K H (vs ++ [v]) (ds ++ [d]) := h.app (.cons g .nil)
theorem DdAll.rev {vs : List V} {ds : List PyData} (h : DdAll K H vs ds) : DdAll K H vs.reverse ds.reverse := by
  induction ds generalizing vs with
  | nil =>
    cases h
    exact .nil
  | cons d ds ih =>
    cases h with
    | cons a t =>
      rw [List.reverse_cons, List.reverse_cons]
      exact (ih t).snoc a
theorem DdAll.rep {vs : List V} {ds : List PyData} (h : DdAll K H vs ds) : ∀ n : Nat, DdAll K H (List.replicate n vs).flatten (List.replicate n ds).flatten
  | 0 => .nil
  | n + 1 => by
    rw [List.replicate_succ, List.replicate_succ, List.flatten_cons, List.flatten_cons]
    exact h.app (DdAll.rep h n)
theorem dd_int {v : V} {i : Int} (h : Dd K H v (.int i)) : v = .int i := by cases h; rfl
theorem dd_bl {v : V} {b : Bool} (h : Dd K H v (.bool b)) : v = .bl b := by cases h; rfl
theorem dd_non {v : V} (h : Dd K H v .none) : v = .non := by cases h; rfl
theorem dd_str {v : V} {x : Str} (h : Dd K H v (.str x)) : v = .str x ∧ x.length ≤ sizeLine := by
  cases h with
  | str _ hl => exact ⟨rfl, hl⟩
theorem dd_tup {v : V} {ds : List PyData} (h : Dd K H v (.tuple ds)) : ∃ a xs, v = .ref a ∧ SqT K H a xs ∧ xs.length ≤ sizeLine ∧ DdAll K H xs ds := by
  cases h with
  | tup hs hl ha => exact ⟨_, _, rfl, hs, hl, ha⟩
theorem dd_lst {v : V} {ds : List PyData} (h : Dd K H v (.list ds)) : ∃ a xs, v = .ref a ∧ H a = some (.lst xs) ∧ xs.length ≤ sizeLine ∧ DdAll K H xs ds := by
  cases h with
  | lst hs hl ha => exact ⟨_, _, rfl, hs, hl, ha⟩
end

mutual
theorem eqv_refl : ∀ d : PyData, d.canLay0 = true → PyData.eqv d d = true
  | .none, _ => by simp [PyData.eqv]
  | .bool b, _ => by simp [PyData.eqv]
  | .int i, _ => by simp [PyData.eqv]
  | .str x, _ => by simp [PyData.eqv]
  | .list ds, h => by
    simp only [PyData.eqv]
    exact eqvAll_refl ds (by simpa [PyData.canLay0] using h)
  | .tuple ds, h => by
    simp only [PyData.eqv]
    exact eqvAll_refl ds (by simpa [PyData.canLay0] using h)
  | .dict _, h => by simp [PyData.canLay0] at h
theorem eqvAll_refl : ∀ ds : List PyData, PyData.canLayAll0 ds = true → PyData.eqvAll ds ds = true
  | [], _ => by simp [PyData.eqvAll]
  | d :: ds, h => by
    have h' : d.canLay0 = true ∧ PyData.canLayAll0 ds = true := by simpa [PyData.canLayAll0] using h
    simp only [PyData.eqvAll]
    rw [eqv_refl d h'.1, eqvAll_refl ds h'.2]
    rfl
end
theorem shaped_lay {d : PyData} (h : SeqAt.shaped d = true) : d.canLay0 = true := SeqAt.canLay_of_shaped h

/-! ### what is changed: objects of M alone; J holds of the heap all the while; B: the part of the heap that data stand in -/
structure Fm where
  M : Addr → Prop
  J : Hp → Prop
  up : ∀ H H', Ex H H' → J H → J H'
  lv : ∀ H a, J H → M a → H a ≠ none
  fr : ∀ H a o, J H → ¬ M a → J (upd H a o)
def Fm.pure : Fm := ⟨fun _ => False, fun _ => True, fun _ _ _ _ => trivial, fun _ _ _ z => z.elim, fun _ _ _ _ _ => trivial⟩
structure Step (M : Addr → Prop) (B H B' H' : Hp) : Prop where
  bb : Ex B B'
  bh : Ex B' H'
  keep : ∀ a o, ¬ M a → H a = some o → H' a = some o
  sep : ∀ a, B a = none → H a ≠ none → B' a = none
  live : ∀ a, H a ≠ none → H' a ≠ none
section
variable {M M' : Addr → Prop} {B H B' H' B2 H2 : Hp} {p : Addr} {o : HO}
theorem Step.refl (e : Ex B H) : Step M B H B H := ⟨Ex.refl B, e, fun _ _ _ h => h, fun _ h _ => h, fun _ h => h⟩
theorem Step.trans (a : Step M B H B' H') (b : Step M B' H' B2 H2) : Step M B H B2 H2 :=
  ⟨a.bb.trans b.bb, b.bh, fun x o n h => b.keep x o n (a.keep x o n h), fun x h n => b.sep x (a.sep x h n) (a.live x n), fun x n => b.live x (a.live x n)⟩
theorem Step.imp (a : Step M B H B' H') (h : ∀ x, M x → M' x) : Step M' B H B' H' := ⟨a.bb, a.bh, fun x o n => a.keep x o fun z => n (h x z), a.sep, a.live⟩
theorem Step.pure (a : Step (fun _ => False) B H B' H') : Step M B H B' H' := a.imp fun _ z => z.elim
theorem Step.ex (a : Step (fun _ => False) B H B' H') : Ex H H' := fun x o h => a.keep x o (fun z => z) h
theorem Step.alloc (e : Ex B H) (hp : H p = none) : Step M B H (upd B p o) (upd H p o) where
  bb := Ex.new (fresh_back e hp)
  bh := fun a u h => by
    by_cases ha : a = p
    · subst ha
      rw [upd_same] at h ⊢
      exact h
    · rw [upd_ne ha] at h ⊢
      exact e a u h
  keep := fun a u _ h => by
    rw [upd_ne (ne_of_none h hp)]
    exact h
  sep := fun a h n => by
    have ha : a ≠ p := fun z => n (z ▸ hp)
    rw [upd_ne ha]
    exact h
  live := fun a n => by
    have ha : a ≠ p := fun z => n (z ▸ hp)
    rw [upd_ne ha]
    exact n
end

/-- the data stand in B, nothing of M among them -/
structure Ok (F : Fm) (B H : Hp) : Prop where
  e : Ex B H
  j : F.J H
  av : ∀ a, F.M a → B a = none
section
variable {F : Fm} {B H B' H' : Hp} {p : Addr} {o : HO}
theorem Ok.next (k : Ok F B H) (s : Step F.M B H B' H') (j : F.J H') : Ok F B' H' := ⟨s.bh, j, fun a m => s.sep a (k.av a m) (F.lv H a k.j m)⟩
theorem Ok.alloc (k : Ok F B H) (hp : H p = none) : Ok F (upd B p o) (upd H p o) := k.next (Step.alloc k.e hp) (F.up _ _ (Ex.new hp) k.j)
theorem Ok.pure (k : Ok F B H) (s : Step (fun _ => False) B H B' H') : Ok F B' H' := k.next s.pure (F.up _ _ s.ex k.j)
theorem Ok.any (e : Ex B H) : Ok Fm.pure B H := ⟨e, trivial, fun _ z => z.elim⟩
end

/-! ### what expressions evaluate to -/
abbrev PV := V → Hp → Prop
def EV (F : Fm) (te : TE) (σ : L2.St) (B : Hp) (P : PV) : Prop := ∀ B1, Ex B B1 → ∀ H, Ok F B1 H → ∀ Q : VK, (∀ v B' H', Step F.M B1 H B' H' → Ok F B' H' → P v B' → Q v H') → te σ H Q
def EVs (F : Fm) (ta : TA) (σ : L2.St) (B : Hp) (P : List V → Hp → Prop) : Prop := ∀ B1, Ex B B1 → ∀ H, Ok F B1 H → ∀ Q : List V → Hp → Prop, (∀ vs B' H', Step F.M B1 H B' H' → Ok F B' H' → P vs B' → Q vs H') → ta σ H Q
def ETt (F : Fm) (tt : TT) (σ : L2.St) (B : Hp) (b : Bool) : Prop := ∀ B1, Ex B B1 → ∀ H, Ok F B1 H → ∀ Q : Bool → Hp → Prop, (∀ B' H', Step F.M B1 H B' H' → Ok F B' H' → Q b H') → tt σ H Q
def DD (K : PySem.W.Frag) (d : PyData) : PV := fun v B => Dd K B v d
def DDs (K : PySem.W.Frag) (ds : List PyData) : List V → Hp → Prop := fun vs B => DdAll K B vs ds
abbrev ED (F : Fm) (K : PySem.W.Frag) (te : TE) (σ : L2.St) (B : Hp) (d : PyData) : Prop := EV F te σ B (DD K d)
abbrev EDs (F : Fm) (K : PySem.W.Frag) (ta : TA) (σ : L2.St) (B : Hp) (ds : List PyData) : Prop := EVs F ta σ B (DDs K ds)
/-- operations on values -/
def RV2 (F : Fm) (r : R2) (B : Hp) (P P' Z : PV) : Prop := ∀ B1, Ex B B1 → ∀ H u v, Ok F B1 H → P u B1 → P' v B1 → ∀ Q : VK, (∀ w B' H', Step F.M B1 H B' H' → Ok F B' H' → Z w B' → Q w H') → r u v H Q
def RVc (F : Fm) (r : List V → Hp → VK → Prop) (B : Hp) (P : List V → Hp → Prop) (Z : PV) : Prop := ∀ B1, Ex B B1 → ∀ H us, Ok F B1 H → P us B1 → ∀ Q : VK, (∀ w B' H', Step F.M B1 H B' H' → Ok F B' H' → Z w B' → Q w H') → r us H Q
abbrev RD2 (F : Fm) (K : PySem.W.Frag) (r : R2) (B : Hp) (x y z : PyData) : Prop := RV2 F r B (DD K x) (DD K y) (DD K z)
abbrev RDc (F : Fm) (K : PySem.W.Frag) (r : List V → Hp → VK → Prop) (B : Hp) (xs : List PyData) (z : PyData) : Prop := RVc F r B (DDs K xs) (DD K z)
/-- stays true in larger heaps -/
def Upc (P : PV) : Prop := ∀ v B B', Ex B B' → P v B → P v B'
def Upcs (P : List V → Hp → Prop) : Prop := ∀ v B B', Ex B B' → P v B → P v B'
section
variable {F : Fm} {K : PySem.W.Frag} {σ : L2.St} {B B' : Hp} {te ta tb tc : TE} {tas : TA} {t u : TT} {d x y z : PyData} {ds : List PyData} {b c : Bool} {P P' Z : PV} {Ps : List V → Hp → Prop}
theorem upc_dd : Upc (DD K d) := fun _ _ _ e h => Dd.up h e
theorem upc_dds : Upcs (DDs K ds) := fun _ _ _ e h => DdAll.up h e
theorem EV.up (h : EV F te σ B P) (e : Ex B B') : EV F te σ B' P := fun B1 e0 H j Q q => h B1 (e.trans e0) H j Q q
theorem EVs.up (h : EVs F tas σ B Ps) (e : Ex B B') : EVs F tas σ B' Ps := fun B1 e0 H j Q q => h B1 (e.trans e0) H j Q q
theorem ETt.up (h : ETt F t σ B b) (e : Ex B B') : ETt F t σ B' b := fun B1 e0 H j Q q => h B1 (e.trans e0) H j Q q
theorem EV.imp (h : EV F te σ B P) (i : ∀ v B1, Ex B B1 → P v B1 → Z v B1) : EV F te σ B Z := fun B1 e0 H j Q q => h B1 e0 H j Q fun v B2 H2 s j2 p => q v B2 H2 s j2 (i v B2 (e0.trans s.bb) p)
theorem ed_is {d' : PyData} (h : ED F K te σ B d) (e : d = d') : ED F K te σ B d' := e ▸ h
theorem et_is {b' : Bool} (h : ETt F t σ B b) (e : b = b') : ETt F t σ B b' := e ▸ h
theorem ev_v {v : V} (hu : Upc P) (h : P v B) : EV F (tC v) σ B P := fun B1 e0 H j Q q => q v B1 H (Step.refl j.e) j (hu v B B1 e0 h)
theorem ev_var {i : Nat} {v : V} (hi : σ[i]? = some (some v)) (hu : Upc P) (h : P v B) : EV F (tVar i) σ B P := fun B1 e0 H j Q q => ⟨v, hi, q v B1 H (Step.refl j.e) j (hu v B B1 e0 h)⟩
theorem ed_var {i : Nat} {v : V} (hi : σ[i]? = some (some v)) (h : Dd K B v d) : ED F K (tVar i) σ B d := ev_var hi upc_dd h
theorem ed_v {v : V} (h : Dd K B v d) : ED F K (tC v) σ B d := ev_v upc_dd h
theorem ed_int {i : Int} : ED F K (tC (.int i)) σ B (.int i) := ed_v (.int i)
theorem ed_bl : ED F K (tC (.bl b)) σ B (.bool b) := ed_v (.bl b)
theorem ed_non : ED F K (tC .non) σ B .none := ed_v .non
theorem ed_str {x : Str} (hl : x.length ≤ sizeLine := by decide) : ED F K (tC (.str x)) σ B (.str x) := ed_v (.str x hl)
theorem evs_nil : EVs F tNil σ B (fun vs _ => vs = []) := fun B1 e0 H j Q q => q [] B1 H (Step.refl j.e) j rfl
theorem evs_cons (hu : Upc P) (h : EV F te σ B P) (hs : EVs F tas σ B Ps) : EVs F (tCons te tas) σ B (fun vs B => ∃ v us, vs = v :: us ∧ P v B ∧ Ps us B) := fun B1 e0 H j Q q =>
  h B1 e0 H j _ fun v B2 H2 s2 j2 p => hs B2 (e0.trans s2.bb) H2 j2 _ fun us B3 H3 s3 j3 ps => q (v :: us) B3 H3 (s2.trans s3) j3 ⟨v, us, rfl, hu v B2 B3 s3.bb p, ps⟩
theorem eds_nil : EDs F K tNil σ B [] := fun B1 e0 H j Q q => q [] B1 H (Step.refl j.e) j .nil
theorem eds_cons (h : ED F K te σ B d) (hs : EDs F K tas σ B ds) : EDs F K (tCons te tas) σ B (d :: ds) := fun B1 e0 H j Q q =>
  h B1 e0 H j _ fun v B2 H2 s2 j2 p => hs B2 (e0.trans s2.bb) H2 j2 _ fun us B3 H3 s3 j3 ps => q (v :: us) B3 H3 (s2.trans s3) j3 (.cons (Dd.up p s3.bb) ps)
/-- a new object -/
theorem EVs.newT (h : EVs F tas σ B Ps) (hl : ∀ vs B1, Ex B B1 → Ps vs B1 → vs.length ≤ sizeLine) (hz : ∀ vs p B1, Ex B B1 → Ps vs B1 → B1 p = none → Z (.ref p) (upd B1 p (.tup vs))) : EV F (tTup tas) σ B Z := fun B1 e0 H j Q q =>
  h B1 e0 H j _ fun vs B2 H2 s2 j2 p => ⟨hl vs B2 (e0.trans s2.bb) p, fun a ha => q (.ref a) _ _ (s2.trans (Step.alloc j2.e ha)) (j2.alloc ha) (hz vs a B2 (e0.trans s2.bb) p (fresh_back s2.bh ha))⟩
theorem EVs.newL (h : EVs F tas σ B Ps) (hl : ∀ vs B1, Ex B B1 → Ps vs B1 → vs.length ≤ sizeLine) (hz : ∀ vs p B1, Ex B B1 → Ps vs B1 → B1 p = none → Z (.ref p) (upd B1 p (.lst vs))) : EV F (tLst tas) σ B Z := fun B1 e0 H j Q q =>
  h B1 e0 H j _ fun vs B2 H2 s2 j2 p => ⟨hl vs B2 (e0.trans s2.bb) p, fun a ha => q (.ref a) _ _ (s2.trans (Step.alloc j2.e ha)) (j2.alloc ha) (hz vs a B2 (e0.trans s2.bb) p (fresh_back s2.bh ha))⟩
theorem ed_tup (h : EDs F K tas σ B ds) (hl : ds.length ≤ 16777216 := by exact Nat.le_of_ble_eq_true rfl) : ED F K (tTup tas) σ B (.tuple ds) := by
  have lz : ∀ (vs : List V) (B1 : Hp), Ex B B1 → DDs K ds vs B1 → vs.length ≤ sizeLine := fun vs B1 _ g => by rw [DdAll.len g, sizeLine_eq]; exact hl
  exact h.newT lz fun vs p B1 e g hp => .tup (st_of upd_same) (lz vs B1 e g) (DdAll.up g (Ex.new hp))
theorem ed_lst (h : EDs F K tas σ B ds) (hl : ds.length ≤ 16777216 := by exact Nat.le_of_ble_eq_true rfl) : ED F K (tLst tas) σ B (.list ds) := by
  have lz : ∀ (vs : List V) (B1 : Hp), Ex B B1 → DDs K ds vs B1 → vs.length ≤ sizeLine := fun vs B1 _ g => by rw [DdAll.len g, sizeLine_eq]; exact hl
  exact h.newL lz fun vs p B1 e g hp => .lst upd_same (lz vs B1 e g) (DdAll.up g (Ex.new hp))
theorem ev_op {r : R2} (ha : EV F ta σ B P) (hb : EV F tb σ B P') (hu : Upc P) (hr : RV2 F r B P P' Z) : EV F (tOp r ta tb) σ B Z := fun B1 e0 H j Q q =>
  ha B1 e0 H j _ fun v B2 H2 s2 j2 h2 => hb B2 (e0.trans s2.bb) H2 j2 _ fun w B3 H3 s3 j3 h3 =>
    hr B3 ((e0.trans s2.bb).trans s3.bb) H3 v w j3 (hu v B2 B3 s3.bb h2) h3 Q fun z B4 H4 s4 j4 h4 => q z B4 H4 ((s2.trans s3).trans s4) j4 h4
theorem ed_op {r : R2} (ha : ED F K ta σ B x) (hb : ED F K tb σ B y) (hr : RD2 F K r B x y z) : ED F K (tOp r ta tb) σ B z := ev_op ha hb upc_dd hr
theorem ev_cb {r : List V → Hp → VK → Prop} (h : EVs F tas σ B Ps) (hr : RVc F r B Ps Z) : EV F (tCB r tas) σ B Z := fun B1 e0 H j Q q =>
  h B1 e0 H j _ fun vs B2 H2 s2 j2 h2 => hr B2 (e0.trans s2.bb) H2 vs j2 h2 Q fun w B3 H3 s3 j3 h3 => q w B3 H3 (s2.trans s3) j3 h3
theorem ev_call {sp : Sp} {E : XK} (h : EVs F tas σ B Ps) (hr : RVc F (fun vs H Q => sp vs H Q E) B Ps Z) : EV F (tCall sp [] E tas) σ B Z := fun B1 e0 H j Q q =>
  h B1 e0 H j _ fun vs B2 H2 s2 j2 h2 => by
    show sp (vs ++ []) H2 Q E
    rw [List.append_nil]
    exact hr B2 (e0.trans s2.bb) H2 vs j2 h2 Q fun w B3 H3 s3 j3 h3 => q w B3 H3 (s2.trans s3) j3 h3
theorem ev_if (h : ETt F t σ B b) (h1 : b = true → EV F ta σ B P) (h2 : b = false → EV F tb σ B P) : EV F (tIf t ta tb) σ B P := fun B1 e0 H j Q q => h B1 e0 H j _ fun B2 H2 s2 j2 => by
  cases b with
  | true =>
    show ta σ H2 Q
    exact h1 rfl B2 (e0.trans s2.bb) H2 j2 Q fun v B3 H3 s3 j3 g => q v B3 H3 (s2.trans s3) j3 g
  | false =>
    show tb σ H2 Q
    exact h2 rfl B2 (e0.trans s2.bb) H2 j2 Q fun v B3 H3 s3 j3 g => q v B3 H3 (s2.trans s3) j3 g
theorem ed_andV (h1 : ED F K ta σ B (.bool b)) (h2 : b = true → ED F K tb σ B (.bool c)) : ED F K (tAndV ta tb) σ B (.bool (b && c)) := fun B1 e0 H j Q q => h1 B1 e0 H j _ fun v B2 H2 s2 j2 g => ⟨b, dd_bl g, by
  cases b with
  | true =>
    show tb σ H2 Q
    exact h2 rfl B2 (e0.trans s2.bb) H2 j2 Q fun v B3 H3 s3 j3 g => q v B3 H3 (s2.trans s3) j3 g
  | false =>
    show Q (.bl false) H2
    exact q _ B2 H2 s2 j2 (.bl false)⟩
theorem ed_orV (h1 : ED F K ta σ B (.bool b)) (h2 : b = false → ED F K tb σ B (.bool c)) : ED F K (tOrV ta tb) σ B (.bool (b || c)) := fun B1 e0 H j Q q => h1 B1 e0 H j _ fun v B2 H2 s2 j2 g => ⟨b, dd_bl g, by
  cases b with
  | true =>
    show Q (.bl true) H2
    exact q _ B2 H2 s2 j2 (.bl true)
  | false =>
    show tb σ H2 Q
    exact h2 rfl B2 (e0.trans s2.bb) H2 j2 Q fun v B3 H3 s3 j3 g => q v B3 H3 (s2.trans s3) j3 g⟩
/-- a < b < c -/
theorem ed_chain {r r' : R2} (ha : ED F K ta σ B x) (hb : ED F K tb σ B y) (hr : RD2 F K r B x y (.bool b)) (h2 : b = true → ∃ z, ED F K tc σ B z ∧ RD2 F K r' B y z (.bool c)) : ED F K (tChain r r' ta tb tc) σ B (.bool (b && c)) := fun B1 e0 H j Q q =>
  ha B1 e0 H j _ fun v B2 H2 s2 j2 h2' => hb B2 (e0.trans s2.bb) H2 j2 _ fun w B3 H3 s3 j3 h3 => hr B3 ((e0.trans s2.bb).trans s3.bb) H3 v w j3 (Dd.up h2' s3.bb) h3 _ fun z B4 H4 s4 j4 h4 => ⟨b, dd_bl h4, by
    cases b with
    | true =>
      obtain ⟨z, hc, hr2⟩ := h2 rfl
      show tc σ H4 _
      exact hc B4 (((e0.trans s2.bb).trans s3.bb).trans s4.bb) H4 j4 _ fun u B5 H5 s5 j5 h5 => hr2 B5 ((((e0.trans s2.bb).trans s3.bb).trans s4.bb).trans s5.bb) H5 w u j5 (Dd.up h3 (s4.bb.trans s5.bb)) h5 Q fun t B6 H6 s6 j6 h6 => q t B6 H6 ((((s2.trans s3).trans s4).trans s5).trans s6) j6 h6
    | false =>
      show Q (.bl false) H4
      exact q _ B4 H4 ((s2.trans s3).trans s4) j4 (.bl false)⟩
theorem ed_notV (h1 : ED F K ta σ B (.bool b)) : ED F K (tNotV ta) σ B (.bool (!b)) := fun B1 e0 H j Q q => h1 B1 e0 H j _ fun v B2 H2 s2 j2 g => ⟨b, dd_bl g, q _ B2 H2 s2 j2 (.bl _)⟩
/-! tests -/
theorem et_cmp (h : ED F K te σ B (.bool b)) : ETt F (tTest te) σ B b := fun B1 e0 H j Q q => h B1 e0 H j _ fun v B2 H2 s2 j2 g => ⟨b, dd_bl g, q B2 H2 s2 j2⟩
theorem et_val (h : ED F K te σ B (.bool b)) : ETt F (tB te) σ B b := fun B1 e0 H j Q q => h B1 e0 H j _ fun v B2 H2 s2 j2 g => ⟨b, dd_bl g, q B2 H2 s2 j2⟩
theorem et_not (h : ETt F t σ B b) : ETt F (tNot t) σ B (!b) := fun B1 e0 H j Q q => h B1 e0 H j _ fun B2 H2 s2 j2 => q B2 H2 s2 j2
theorem et_and (h1 : ETt F t σ B b) (h2 : b = true → ETt F u σ B c) : ETt F (tAnd t u) σ B (b && c) := fun B1 e0 H j Q q => h1 B1 e0 H j _ fun B2 H2 s2 j2 => by
  cases b with
  | true =>
    show u σ H2 Q
    exact h2 rfl B2 (e0.trans s2.bb) H2 j2 Q fun B3 H3 s3 j3 => q B3 H3 (s2.trans s3) j3
  | false =>
    show Q false H2
    exact q B2 H2 s2 j2
theorem et_or (h1 : ETt F t σ B b) (h2 : b = false → ETt F u σ B c) : ETt F (tOr t u) σ B (b || c) := fun B1 e0 H j Q q => h1 B1 e0 H j _ fun B2 H2 s2 j2 => by
  cases b with
  | true =>
    show Q true H2
    exact q B2 H2 s2 j2
  | false =>
    show u σ H2 Q
    exact h2 rfl B2 (e0.trans s2.bb) H2 j2 Q fun B3 H3 s3 j3 => q B3 H3 (s2.trans s3) j3
theorem PW_or3 {t1 t2 t3 : TT} (h1 : ETt F t1 σ B false) (h2 : ETt F t2 σ B false) (h3 : ETt F t3 σ B false) : ETt F (tOr t1 (tOr t2 t3)) σ B false := et_or h1 fun _ => et_or h2 fun _ => h3
/-- a value's truth -/
def tru : PyData → Bool
  | .none => false
  | .bool b => b
  | .int i => i != 0
  | .str x => (x.length : Int) != 0
  | .list ds => !ds.isEmpty
  | .tuple ds => !ds.isEmpty
  | .dict kvs => !kvs.isEmpty
theorem DdAll.emp {K : PySem.W.Frag} {H : Hp} {vs : List V} {ds : List PyData} (h : DdAll K H vs ds) : (!vs.isEmpty) = !ds.isEmpty := by cases h <;> rfl
theorem truV {K : PySem.W.Frag} {H : Hp} {v : V} {d : PyData} (h : Dd K H v d) : TruV K v H (tru d) := by
  cases h with
  | non => exact rfl
  | bl b => exact rfl
  | int i => exact rfl
  | str x hl => exact ⟨hl, rfl⟩
  | lst hs hl ha => exact .inl ⟨_, sq_of hs, (DdAll.emp ha).symm⟩
  | tup hs hl ha => exact .inr (.inl ⟨_, hs, (DdAll.emp ha).symm⟩)
theorem et_tru (h : ED F K te σ B d) : ETt F (fun σ H Q => te σ H fun x H' => ∃ k, TruV K x H' k ∧ Q k H') σ B (tru d) := fun B1 e0 H j Q q => h B1 e0 H j _ fun v B2 H2 s2 j2 g => ⟨tru d, truV (Dd.up g s2.bh), q B2 H2 s2 j2⟩
end

/-! ### operations -/
section
variable {F : Fm} {K : PySem.W.Frag} {B : Hp} {i j : Int} {x y z d : PyData} {ds es xs : List PyData}
/-- an operation that makes nothing -/
theorem rd_of {r : R2} (h : ∀ H u v, Dd K H u x → Dd K H v y → ∃ w, (∀ H', Dd K H' w z) ∧ ∀ Q : VK, Q w H → r u v H Q) : RD2 F K r B x y z := fun B1 e0 H u v jj hu hv Q q => by
  obtain ⟨w, hw, hq⟩ := h H u v (Dd.up hu jj.e) (Dd.up hv jj.e)
  exact hq Q (q w B1 H (Step.refl jj.e) jj (hw B1))
/-- + of ints, texts, lists, tuples -/
def rAddA (K : PySem.W.Frag) : R2 := fun x y H Q => rI0 (fun i j => .int (i + j)) x y H Q ∨ (∃ i j, x = .str i ∧ y = .str j ∧ i.length + j.length ≤ sizeLine ∧ Q (.str (i ++ j)) H) ∨ rCat x y H Q ∨ rCatA K x y H Q
theorem op_addA {X : Cx} : OpR X (binaryOp .Add) (rAddA X.K) := op_add.or (op_add_str.or (op_cat.or op_catA))
theorem rd_add : RD2 F K (rAddA K) B (.int i) (.int j) (.int (i + j)) := rd_of fun H u v hu hv => ⟨.int (i + j), fun _ => .int _, fun Q q => .inl ⟨i, j, dd_int hu, dd_int hv, q⟩⟩
theorem str_app_len (a b : Str) : (a ++ b).length = a.length + b.length := by
  show (a.cps ++ b.cps).size = a.cps.size + b.cps.size
  exact Array.size_append
theorem rd_addS {a b : Str} (hl : a.length + b.length ≤ 16777216) : RD2 F K (rAddA K) B (.str a) (.str b) (.str (a ++ b)) := rd_of fun H u v hu hv =>
  ⟨.str (a ++ b), fun _ => .str _ (by rw [str_app_len, sizeLine_eq]; exact hl), fun Q q => .inr (.inl ⟨a, b, (dd_str hu).1, (dd_str hv).1, by rw [sizeLine_eq]; exact hl, q⟩)⟩
/-- + of lists: what their items are is kept -/
theorem rv_addL {a b : Addr} {vs us : List V} (hl : vs.length + us.length ≤ 16777216) {Z : PV} (hz : ∀ p B1, Ex B B1 → B1 p = none → Z (.ref p) (upd B1 p (.lst (vs ++ us)))) :
    RV2 F (rAddA K) B (fun v B => v = .ref a ∧ B a = some (.lst vs)) (fun v B => v = .ref b ∧ B b = some (.lst us)) Z := fun B1 e0 H u v jj ⟨hu, h1⟩ ⟨hv, h2⟩ Q q =>
  .inr (.inr (.inl ⟨a, b, vs, us, hu, hv, jj.e _ _ h1, jj.e _ _ h2, by rw [sizeLine_eq]; exact hl, fun p hp => q _ _ _ (Step.alloc jj.e hp) (jj.alloc hp) (hz p B1 e0 (fresh_back jj.e hp))⟩))
theorem rd_addL (hl : ds.length + es.length ≤ 16777216) : RD2 F K (rAddA K) B (.list ds) (.list es) (.list (ds ++ es)) := fun B1 e0 H u v jj hu hv Q q => by
  obtain ⟨a, xs, rfl, h1, l1, g1⟩ := dd_lst hu
  obtain ⟨b, ys, rfl, h2, l2, g2⟩ := dd_lst hv
  have hz : xs.length + ys.length ≤ sizeLine := by rw [g1.len, g2.len, sizeLine_eq]; exact hl
  exact .inr (.inr (.inl ⟨a, b, xs, ys, rfl, rfl, jj.e _ _ h1, jj.e _ _ h2, hz, fun p hp => q _ _ _ (Step.alloc jj.e hp) (jj.alloc hp) (.lst upd_same (by rw [List.length_append]; exact hz) ((g1.app g2).up (Ex.new (fresh_back jj.e hp))))⟩))
theorem rd_addT (hl : ds.length + es.length ≤ 16777216) : RD2 F K (rAddA K) B (.tuple ds) (.tuple es) (.tuple (ds ++ es)) := fun B1 e0 H u v jj hu hv Q q => by
  obtain ⟨a, xs, rfl, h1, l1, g1⟩ := dd_tup hu
  obtain ⟨b, ys, rfl, h2, l2, g2⟩ := dd_tup hv
  have hz : xs.length + ys.length ≤ sizeLine := by rw [g1.len, g2.len, sizeLine_eq]; exact hl
  refine .inr (.inr (.inr ⟨a, b, xs, ys, rfl, rfl, ex_t jj.e h1, ex_t jj.e h2, hz, fun e => ?_, fun _ e => ?_, fun _ _ p hp => q _ _ _ (Step.alloc jj.e hp) (jj.alloc hp) (.tup (st_of upd_same) (by rw [List.length_append]; exact hz) ((g1.app g2).up (Ex.new (fresh_back jj.e hp))))⟩))
  · subst e
    cases g1
    exact q _ B1 H (Step.refl jj.e) jj hv
  · subst e
    cases g2
    rw [List.append_nil] at q
    exact q _ B1 H (Step.refl jj.e) jj hu
theorem rd_I0 {g : Int → Int → Int} : RD2 F K (rI0 fun i j => .int (g i j)) B (.int i) (.int j) (.int (g i j)) := rd_of fun H u v hu hv => ⟨.int (g i j), fun _ => .int _, fun Q q => ⟨i, j, dd_int hu, dd_int hv, q⟩⟩
theorem rd_I {C : Int → Int → Prop} {g : Int → Int → Int} (hc : C i j) : RD2 F K (rI C fun i j => .int (g i j)) B (.int i) (.int j) (.int (g i j)) := rd_of fun H u v hu hv => ⟨.int (g i j), fun _ => .int _, fun Q q => ⟨i, j, dd_int hu, dd_int hv, hc, q⟩⟩
theorem rd_sub : RD2 F K (rI0 fun i j => .int (i - j)) B (.int i) (.int j) (.int (i - j)) := rd_I0 (g := fun i j => i - j)
theorem rd_mul (hc : CMul i j) : RD2 F K (rI CMul fun i j => .int (i * j)) B (.int i) (.int j) (.int (i * j)) := rd_I (g := fun i j => i * j) hc
theorem rd_mod (hc : 0 < j) : RD2 F K (rI (fun _ j => 0 < j) fun i j => .int (i % j)) B (.int i) (.int j) (.int (i % j)) := rd_I (C := fun _ j => 0 < j) (g := fun i j => i % j) hc
theorem rd_fdiv (hc : CDiv i j) : RD2 F K (rI CDiv fun i j => .int (i / j)) B (.int i) (.int j) (.int (i / j)) := rd_I (g := fun i j => i / j) hc
theorem rd_pow (hc : CPow i j) : RD2 F K (rI CPow fun i j => .int (i ^ j.toNat)) B (.int i) (.int j) (.int (i ^ j.toNat)) := rd_I (g := fun i j => i ^ j.toNat) hc
theorem rd_cmp {p : Int → Int → Bool} : RD2 F K (rI0 fun i j => .bl (p i j)) B (.int i) (.int j) (.bool (p i j)) := rd_of fun H u v hu hv => ⟨.bl (p i j), fun _ => .bl _, fun Q q => ⟨i, j, dd_int hu, dd_int hv, q⟩⟩
theorem rd_lt : RD2 F K (rI0 fun i j => .bl (decide (i < j))) B (.int i) (.int j) (.bool (decide (i < j))) := rd_cmp (p := fun i j => decide (i < j))
theorem rd_le : RD2 F K (rI0 fun i j => .bl (decide (i ≤ j))) B (.int i) (.int j) (.bool (decide (i ≤ j))) := rd_cmp (p := fun i j => decide (i ≤ j))
theorem rd_gt : RD2 F K (rI0 fun i j => .bl (decide (j < i))) B (.int i) (.int j) (.bool (decide (j < i))) := rd_cmp (p := fun i j => decide (j < i))
theorem rd_ge : RD2 F K (rI0 fun i j => .bl (decide (j ≤ i))) B (.int i) (.int j) (.bool (decide (j ≤ i))) := rd_cmp (p := fun i j => decide (j ≤ i))
theorem rd_eqD (hx : SeqAt.shaped x = true) (hy : SeqAt.shaped y = true) : RD2 F K (rEqD K) B x y (.bool (PyData.eqv x y)) := rd_of fun H u v hu hv => ⟨.bl _, fun _ => .bl _, fun Q q => ⟨x, y, Dd.dp _ _ hu, Dd.dp _ _ hv, hx, hy, q⟩⟩
theorem rd_neD (hx : SeqAt.shaped x = true) (hy : SeqAt.shaped y = true) : RD2 F K (rNeD K) B x y (.bool (!PyData.eqv x y)) := rd_of fun H u v hu hv => ⟨.bl _, fun _ => .bl _, fun Q q => ⟨x, y, Dd.dp _ _ hu, Dd.dp _ _ hv, hx, hy, q⟩⟩
def isNon : PyData → Bool
  | .none => true
  | _ => false
theorem dd_isNon {H : Hp} {v : V} (h : Dd K H v d) : decide (v = .non) = isNon d := by
  cases h <;> first | rfl | exact decide_eq_false (fun z => nomatch z)
theorem rd_isN : RD2 F K (fun x y H Q => y = .non ∧ Q (.bl (decide (x = .non))) H) B x .none (.bool (isNon x)) := rd_of fun H u v hu hv => ⟨.bl (isNon x), fun _ => .bl _, fun Q q => ⟨dd_non hv, by
  show Q (.bl (decide (u = .non))) H
  rw [dd_isNon hu]
  exact q⟩⟩
theorem rd_notN : RD2 F K (fun x y H Q => y = .non ∧ Q (.bl (!decide (x = .non))) H) B x .none (.bool (!isNon x)) := rd_of fun H u v hu hv => ⟨.bl (!isNon x), fun _ => .bl _, fun Q q => ⟨dd_non hv, by
  show Q (.bl (!decide (u = .non))) H
  rw [dd_isNon hu]
  exact q⟩⟩
/-- x[i] -/
theorem atI_data {H : Hp} {vs : List V} (h : DdAll K H vs ds) (e : atI ds i = some d) : ∃ v, atI vs i = some v ∧ Dd K H v d := by
  unfold atI at e ⊢
  rw [h.len]
  obtain ⟨j, e1, e2⟩ := Option.bind_eq_some_iff.mp e
  obtain ⟨v, h1, h2⟩ := h.get e2
  exact ⟨v, by rw [e1]; exact h1, h2⟩
theorem rd_ixT (e : atI ds i = some d) : RD2 F K (rIx K) B (.tuple ds) (.int i) d := fun B1 e0 H u v jj hu hv Q q => by
  obtain ⟨a, xs, rfl, h1, l1, g1⟩ := dd_tup hu
  obtain ⟨w, e2, h2⟩ := atI_data g1 e
  exact .inr (.inl ⟨a, xs, i, w, rfl, dd_int hv, ex_t jj.e h1, e2, q _ B1 H (Step.refl jj.e) jj h2⟩)
theorem rd_ixL (e : atI ds i = some d) : RD2 F K (rIx K) B (.list ds) (.int i) d := fun B1 e0 H u v jj hu hv Q q => by
  obtain ⟨a, xs, rfl, h1, l1, g1⟩ := dd_lst hu
  obtain ⟨w, e2, h2⟩ := atI_data g1 e
  exact .inl ⟨a, xs, i, w, rfl, dd_int hv, sq_of (jj.e _ _ h1), e2, q _ B1 H (Step.refl jj.e) jj h2⟩
theorem rd_ixS {s : Str} {c : Nat} (e : atI s.cps.toList i = some c) : RD2 F K (rIx K) B (.str s) (.int i) (.str ⟨#[c]⟩) := fun B1 e0 H u v jj hu hv Q q => by
  obtain ⟨rfl, hl⟩ := dd_str hu
  exact .inr (.inr ⟨s, i, c, rfl, dd_int hv, hl, e, q _ B1 H (Step.refl jj.e) jj (.str _ (by show 1 ≤ sizeLine; decide))⟩)
/-- calls of built-ins -/
theorem rc_of {r : List V → Hp → VK → Prop} (h : ∀ H u, Dd K H u x → ∃ w, (∀ H', Dd K H' w z) ∧ ∀ Q : VK, Q w H → r [u] H Q) : RDc F K r B [x] z := fun B1 e0 H us jj hu Q q => by
  cases hu with
  | cons a t =>
    cases t
    obtain ⟨w, hw, hq⟩ := h H _ (Dd.up a jj.e)
    exact hq Q (q w B1 H (Step.refl jj.e) jj (hw B1))
def lenD : PyData → Int
  | .str x => (x.length : Nat)
  | .list ds => (ds.length : Nat)
  | .tuple ds => (ds.length : Nat)
  | _ => 0
def hasLen : PyData → Bool
  | .str _ => true
  | .list _ => true
  | .tuple _ => true
  | _ => false
theorem rc_len (h : hasLen x = true) : RDc F K (fun xs H Q => ∃ x n, xs = [x] ∧ LenV K x H n ∧ Q (.int (n : Nat)) H) B [x] (.int (lenD x)) := rc_of fun H u hu => by
  cases hu with
  | str s hl => exact ⟨.int (s.length : Nat), fun _ => .int _, fun Q q => ⟨_, s.length, rfl, ⟨hl, rfl⟩, q⟩⟩
  | @lst a xs ds hs hl ha => exact ⟨.int (ds.length : Nat), fun _ => .int _, fun Q q => ⟨_, ds.length, rfl, .inl ⟨xs, sq_of hs, ha.len.symm⟩, q⟩⟩
  | @tup a xs ds hs hl ha => exact ⟨.int (ds.length : Nat), fun _ => .int _, fun Q q => ⟨_, ds.length, rfl, .inr ⟨xs, hs, ha.len.symm⟩, q⟩⟩
  | _ => cases h
theorem rc_int1 : RDc F K (fun xs H Q => (∃ i, xs = [.int i] ∧ Q (.int i) H) ∨ ∃ k, xs = [.bl k] ∧ Q (.int (if k then 1 else 0)) H) B [.int i] (.int i) := rc_of fun H u hu => by
  cases hu
  exact ⟨.int i, fun _ => .int _, fun Q q => .inl ⟨i, rfl, q⟩⟩
theorem rc_intB {k : Bool} : RDc F K (fun xs H Q => (∃ i, xs = [.int i] ∧ Q (.int i) H) ∨ ∃ k, xs = [.bl k] ∧ Q (.int (if k then 1 else 0)) H) B [.bool k] (.int (if k then 1 else 0)) := rc_of fun H u hu => by
  cases hu
  exact ⟨.int (if k then 1 else 0), fun _ => .int _, fun Q q => .inr ⟨k, rfl, q⟩⟩
theorem rc_abs : RDc F K (fun xs H Q => ∃ i, xs = [.int i] ∧ Q (.int (if i < 0 then -i else i)) H) B [.int i] (.int (if i < 0 then -i else i)) := rc_of fun H u hu => by
  cases hu
  exact ⟨.int _, fun _ => .int _, fun Q q => ⟨i, rfl, q⟩⟩
theorem rc_str (hl : i.natAbs.log2 < 1920) (hz : (toString i : Str).length ≤ 16777216) : RDc F K (fun xs H Q => ∃ i : Int, xs = [.int i] ∧ i.natAbs.log2 < 1920 ∧ Q (.str (toString i)) H) B [.int i] (.str (toString i)) := rc_of fun H u hu => by
  cases hu
  exact ⟨.str _, fun _ => .str _ (by rw [sizeLine_eq]; exact hz), fun Q q => ⟨i, rfl, hl, q⟩⟩
/-- isinstance(x, T), T a built-in class -/
def tyD : PyData → String
  | .none => "NoneType"
  | .bool _ => "bool"
  | .int _ => "int"
  | .str _ => "str"
  | .list _ => "list"
  | .tuple _ => "tuple"
  | .dict _ => "dict"
def isIntD : PyData → Bool
  | .int _ => true
  | .bool _ => true
  | _ => false
def isBoolD : PyData → Bool
  | .bool _ => true
  | _ => false
def isStrD : PyData → Bool
  | .str _ => true
  | _ => false
def isTupD : PyData → Bool
  | .tuple _ => true
  | _ => false
def isLstD : PyData → Bool
  | .list _ => true
  | _ => false
theorem kit_int (d : PyData) : kitB (tyD d) "int" = some (isIntD d) := by
  cases d <;> (dsimp only [tyD, isIntD]; decide +kernel)
theorem kit_bool (d : PyData) : kitB (tyD d) "bool" = some (isBoolD d) := by
  cases d <;> (dsimp only [tyD, isBoolD]; decide +kernel)
theorem kit_str (d : PyData) : kitB (tyD d) "str" = some (isStrD d) := by
  cases d <;> (dsimp only [tyD, isStrD]; decide +kernel)
theorem kit_tup (d : PyData) : kitB (tyD d) "tuple" = some (isTupD d) := by
  cases d <;> (dsimp only [tyD, isTupD]; decide +kernel)
theorem kit_lst (d : PyData) : kitB (tyD d) "list" = some (isLstD d) := by
  cases d <;> (dsimp only [tyD, isLstD]; decide +kernel)
theorem tyX {H : Hp} {v : V} (h : Dd K H v d) : TyX K H v (.type (tyD d)) := by
  cases h with
  | non => exact .base .non
  | bl b => exact .base (.bl b)
  | int i => exact .base (.int i)
  | str x hl => exact .base (.str x)
  | lst hs hl ha => exact .base (.lst hs)
  | tup hs hl ha =>
    rcases hs with (hs | ⟨o, hs⟩) | ⟨o, its, n, hk, hc, _⟩
    · exact .base (.tup hs)
    · exact .fTuple hs
    · exact .kTuple hk hc
theorem ed_isi {σ : L2.St} {te : TE} {T : String} {b : Bool} (h : ED F K te σ B d) (hb : kitB (tyD d) T = some b) : ED F K (tCB (rIsi K) (tCons te (tCons (tC (.ty T)) tNil))) σ B (.bool b) := fun B1 e0 H jj Q q =>
  h B1 e0 H jj _ fun v B2 H2 s2 j2 g => ⟨v, .ty T, _, _, b, rfl, .ty T, tyX (Dd.up g s2.bh), kit_ty hb, q _ B2 H2 s2 j2 (.bl b)⟩
end

/-! ### where a def's body stands: behind the entry (B0, H0), at (B, H) -/
structure At (F : Fm) (B0 H0 B H : Hp) : Prop where
  st : Step F.M B0 H0 B H
  j : Ok F B H
theorem At.start {F : Fm} {B H : Hp} (k : Ok F B H) : At F B H B H := ⟨Step.refl k.e, k⟩
theorem At.next {F : Fm} {B0 H0 B H B1 H1 : Hp} (a : At F B0 H0 B H) (s : Step F.M B H B1 H1) (j : Ok F B1 H1) : At F B0 H0 B1 H1 := ⟨a.st.trans s, j⟩
theorem At.e {F : Fm} {B0 H0 B H : Hp} (a : At F B0 H0 B H) : Ex B H := a.st.bh
section
variable {F : Fm} {K : PySem.W.Frag} {σ : L2.St} {B0 H0 B H : Hp} {te ta tb tc : TE} {tas : TA} {t u : TT} {d x y z : PyData} {ds : List PyData} {b c : Bool} {D : Ends} {tz tu tw : TS} {i : Nat} {P : PV}
theorem sv_asg (a : At F B0 H0 B H) (h : EV F te σ B P) (k : ∀ v B1 H1, Ex B B1 → At F B0 H0 B1 H1 → P v B1 → D.nx (σ.set i (some v)) H1) : tAsg te (gName i) D σ H := h B (Ex.refl B) H a.j _ fun v B1 H1 s j p => k v B1 H1 s.bb (a.next s j) p
theorem qv_asg (a : At F B0 H0 B H) (h : EV F te σ B P) (k : ∀ v B1 H1, Ex B B1 → At F B0 H0 B1 H1 → P v B1 → tz D (σ.set i (some v)) H1) : tSeq (tAsg te (gName i)) tz D σ H := sv_asg (D := { D with nx := tz D }) a h k
theorem qv_drop (a : At F B0 H0 B H) (h : EV F te σ B P) (k : ∀ v B1 H1, Ex B B1 → At F B0 H0 B1 H1 → P v B1 → tz D σ H1) : tSeq (tDrop te) tz D σ H := h B (Ex.refl B) H a.j _ fun v B1 H1 s j p => k v B1 H1 s.bb (a.next s j) p
theorem sv_ret (a : At F B0 H0 B H) (h : EV F te σ B P) (k : ∀ v B1 H1, Ex B B1 → At F B0 H0 B1 H1 → P v B1 → D.rt v H1) : tRet te D σ H := h B (Ex.refl B) H a.j _ fun v B1 H1 s j p => k v B1 H1 s.bb (a.next s j) p
theorem sv_retL (a : At F B0 H0 B H) (h : EDs F K tas σ B ds) (k : ∀ vs B1 H1, Step F.M B H B1 H1 → Ok F B1 H1 → DdAll K B1 vs ds → vs.length ≤ sizeLine ∧ ∀ p, H1 p = none → D.rt (.ref p) (upd H1 p (.lst vs))) : tRet (tLst tas) D σ H := h B (Ex.refl B) H a.j _ fun vs B1 H1 s j g => k vs B1 H1 s j g
theorem sv_if (a : At F B0 H0 B H) (h : ETt F t σ B b) (h1 : b = true → ∀ B1 H1, Ex B B1 → At F B0 H0 B1 H1 → tu D σ H1) (h2 : b = false → ∀ B1 H1, Ex B B1 → At F B0 H0 B1 H1 → tw D σ H1) : tIfS t tu tw D σ H := h B (Ex.refl B) H a.j _ fun B1 H1 s j => by
  cases b with
  | true =>
    show tu D σ H1
    exact h1 rfl B1 H1 s.bb (a.next s j)
  | false =>
    show tw D σ H1
    exact h2 rfl B1 H1 s.bb (a.next s j)
theorem qv_if (a : At F B0 H0 B H) (h : ETt F t σ B b) (h1 : b = true → ∀ B1 H1, Ex B B1 → At F B0 H0 B1 H1 → tu { D with nx := tz D } σ H1) (h2 : b = false → ∀ B1 H1, Ex B B1 → At F B0 H0 B1 H1 → tw { D with nx := tz D } σ H1) : tSeq (tIfS t tu tw) tz D σ H := sv_if (D := { D with nx := tz D }) a h h1 h2
/-- if c: return .. (no else) -/
theorem qv_when (a : At F B0 H0 B H) (h : ETt F t σ B b) (h1 : b = true → ∀ B1 H1, Ex B B1 → At F B0 H0 B1 H1 → tu { D with nx := tz D } σ H1) (h2 : b = false → ∀ B1 H1, Ex B B1 → At F B0 H0 B1 H1 → tz D σ H1) : tSeq (tIfS t tu tNext) tz D σ H := qv_if a h h1 h2
end

/-! ### promises: data in, data out, nothing changed -/
/-- called with data ds that pre lets, it gives data f ds -/
def spF (K : PySem.W.Frag) (pre : List PyData → Prop) (f : List PyData → PyData) : Sp := fun vs H Q _ => ∃ (B : Hp) (ds : List PyData), Ex B H ∧ DdAll K B vs ds ∧ pre ds ∧ ∀ v B' H', Step (fun _ => False) B H B' H' → Dd K B' v (f ds) → Q v H'
theorem rc_F {F : Fm} {K : PySem.W.Frag} {pre : List PyData → Prop} {f : List PyData → PyData} {E : XK} {B : Hp} {ds : List PyData} {z : PyData} (h : pre ds) (e : f ds = z) : RDc F K (fun vs H Q => spF K pre f vs H Q E) B ds z := fun B1 e0 H us jj hu Q q =>
  ⟨B1, ds, jj.e, hu, h, fun v B' H' s g => q v B' H' s.pure (jj.pure s) (by rw [← e]; exact g)⟩
theorem ed_F {F : Fm} {K : PySem.W.Frag} {pre : List PyData → Prop} {f : List PyData → PyData} {E : XK} {B : Hp} {ds : List PyData} {z : PyData} {σ : L2.St} {tas : TA} (ha : EDs F K tas σ B ds) (h : pre ds) (e : f ds = z) : ED F K (tCall (spF K pre f) [] E tas) σ B z := ev_call ha (rc_F h e)
end Dx

/-! Exceptions of own classes that are held as values: made, their fields read, asked by isinstance; G.__init__(self, ..), G an own class over ValueError. -/
namespace Ex
open PySem PySem.Spec PyProof.Rows L2
section
variable {X : Cx} {CX : CXT} {G C : Addr} {mc : Value} {o e : Expr} {es : List Expr} {ta : TA} {te : TE} {g x f : Str} {p1 p2 pos p : Pos}
theorem pe_ginit {pl : Sem Bool} (r : ClX.CRead X.K G mc) (k : PySem.W.findCls X.K (.ref G) mc "__init__" = some (.val (.builtin "ValueError.__init__"))) (hg : Gl X g) (hm : X.mg g = some (.ref G)) (ha : PA X (e :: es) ta)
    (hgd : (g == ("__debug__" : Str)) = false := by decide)
    (hc : eval (.Call (.Attribute (.Name g p1) "__init__" p2) (e :: es) [] pos) X.env = (do
      let ov ← eval (.Name g p1) X.env
      standAt p2.atName
      let (f, first) ← holding [ov] (getMethod ov "__init__" pl)
      callWith pos f first (backTo pos (starEach (e :: es) X.env)) (backToKw pos (keywordEach [] X.env))) := by rfl)
    (he : starEach (e :: es) X.env = (false, eval e X.env) :: starEach es X.env := by rfl) (hpl : (backTo pos (starEach es X.env)).any (·.1) = false := by rfl) :
    PE X (.Call (.Attribute (.Name g p1) "__init__" p2) (e :: es) [] pos) (tVeI X.K ta) := by
  refine ⟨fun pins s σ H Q I h => ?_⟩
  refine PySem.W.methodCall_KW (ld_glob I hg hm ?_ hgd) hc
  refine PySem.W.method_cls I.kIn r.ga (PySem.W.cls_value I.kIn r.rd k rfl ?_)
  show wpAny _ _ (callWith pos (Value.builtin "ValueError.__init__") [] (backTo pos (starEach (e :: es) X.env)) []) _ _ _
  refine PyProof.Rows.callWith_method1 (thn (ha.run pos pins _ σ H _ (I.tok _) h) fun us s1 ⟨vs, H1, I1, r1, a, C, ws, ev, hl, T, ea, q⟩ => ?_) he hpl
  subst ev
  cases r1 with
  | @cons _ u0 _ ur ra rw' =>
    obtain rfl : u0 = Value.ref a := ra
    have hlen : ur.length ≤ sizeLine := by
      rw [← Paired.length rw', sizeLine_eq]
      omega
    exact oinit_ok T I1 ea hlen fun s' J => ⟨.non, H1, J, rfl, q⟩
/-- C(e, ..) as a value, C's own __init__ keeping sp: the exception stands at a -/
def tMkV (C : Addr) (sp : Sp) (dvs : List V) (ta : TA) : TE := fun σ H Q => ta σ H fun vs H1 => vs.length ≤ 1000 ∧ ∀ a, H1 a = none → sp (.ref a :: (vs ++ dvs)) (upd H1 a (exo a C none))
  (fun v H2 => v = .non ∧ Q (.ref a) H2) (fun _ _ _ => False)
theorem pe_mkv {C fI : Addr} {k : Nat} {fd : FuncData} {ps : List Str} {sp : Sp} {ds : List Value} {dvs : List V} (T : OexC X.K C) (iC : PySem.W.findIn X.K (.ref C) "__init__" = some (some (.ref fI))) (tI : PySem.W.typeIn X.K (.ref fI) = some (.type "function"))
    (F1 : FnOk X.prog X.w X.K X.mg X.base CX k fI fd ps sp) (hr : Room (k + 1) X.A) (hb : Binds X.K fd ps ds) (hd : Vals dvs ds) (hx : Passes CX X (fun _ _ _ => False)) (hg : Gl X x) (hm : X.mg x = some (.ref C)) (ha : PA X (e :: es) ta)
    (hdb : (x == ("__debug__" : Str)) = false := by decide) (he : starEach (e :: es) X.env = (false, eval e X.env) :: starEach es X.env := by rfl) (hpl : (backTo pos (starEach es X.env)).any (·.1) = false := by rfl) :
    PE X (.Call (.Name x p) (e :: es) [] pos) (tMkV C sp dvs ta) := by
  refine ⟨fun pins s σ H Q I h => ?_⟩
  obtain ⟨nm, q, N, bs, bm, sn, sub, ab, col, dd, k0, k1, k2, k3, k5, hC, hbm⟩ := T.cls
  refine wpAny_Call_Name_kw (ld_glob I hg hm ?_ hdb)
  refine PySem.W.callWith_K (h₀ := X.base) I.ok.mod.kin T.kC (thn (ha.run pos pins s σ H _ I h) fun us s1 ⟨vs, H1, I1, r1, hz, q1⟩ => ⟨I1.kIn, ?_⟩) he hpl
  show wpAny _ _ (call (.ref C) us) _ _ _
  obtain ⟨hp, g, dr, tk, os⟩ := s1
  have hsz : hp.objs.size ≤ hp.objs.size + 1 := Nat.le_succ _
  have hn : H1 (hp.objs.size + 1) = none := I1.hok.fresh hsz
  have hq := q1 (hp.objs.size + 1) hn
  have kk : ∀ b o, hp.get? b = some o → ((hp.push (PySem.W.kdv_tup us)).push (PySem.HandSPX.excO C hp.objs.size)).get? b = some o := fun b o e => Heap.get?_push_of_some _ (Heap.get?_push_of_some _ e)
  have hget : ((hp.push (PySem.W.kdv_tup us)).push (PySem.HandSPX.excO C hp.objs.size)).get? (hp.objs.size + 1) = some (PySem.HandSPX.excO C hp.objs.size) := by heap_get
  have I2 : Inv X pins σ (upd H1 (hp.objs.size + 1) (exo (hp.objs.size + 1) C none)) ⟨(hp.push (PySem.W.kdv_tup us)).push (PySem.HandSPX.excO C hp.objs.size), g, dr, tk, os⟩ :=
    I1.laid (t' := tk) (a := hp.objs.size + 1) (o := exo (hp.objs.size + 1) C none) (h' := (hp.push (PySem.W.kdv_tup us)).push (PySem.HandSPX.excO C hp.objs.size)) kk hsz (exo_ok hget)
  have r2 : Vals (V.ref (hp.objs.size + 1) :: (vs ++ dvs)) (Value.ref (hp.objs.size + 1) :: (us ++ ds)) := .cons rfl (r1.append hd)
  have hl : (Value.ref (hp.objs.size + 1) :: us ++ ds).length = ps.length := by
    have e := r2.length
    rw [F1.len _ _ _ _ hq] at e
    exact e.symm
  have hus : us.length ≤ sizeLine := by
    rw [← Paired.length r1, sizeLine_eq]
    omega
  refine wpAny_call (PySem.HandSPX.call_own F.excBase_ValueError (fun Y => PySem.HandSPX.refsVE_contains Y bm hbm) (I1.kIn _ _ hC) (PySem.W.looks_findIn I1.kIn iC) (fun self => PySem.W.bind_fn I1.kIn self tI) hus
    (codeAny_mono (F1.run _ X.stack _ _ ⟨Value.ref (hp.objs.size + 1) :: us, []⟩ (Value.ref (hp.objs.size + 1) :: (us ++ ds)) _ _ (fun _ _ _ => False) (hr.make C us []) (I2.env0.make C us []) (hb _ (Value.ref (hp.objs.size + 1) :: us) I2.kIn hl) r2 hq) fun r s' hq' => ?_))
  cases r with
  | error er => exact hx pins σ _ _ er s' I2 hq'
  | ok fl =>
    cases fl with
    | ret u =>
      obtain ⟨v, H2, I3, rv, ev, q2⟩ := I2.after hq'
      subst ev
      exact ⟨rv, ⟨V.ref (hp.objs.size + 1), H2, I3, rfl, q2⟩⟩
    | next => exact False.elim hq'
    | brk => exact False.elim hq'
    | cont => exact False.elim hq'
/-- e.f, e an exception that is held as a value -/
def tOxf (K : PySem.W.Frag) (f : Str) (te : TE) : TE := fun σ H Q => te σ H fun x H1 => ∃ (a C d : Addr) (fs : List (Str × V)) (v : V), x = .ref a ∧ H1 a = some (exo a C (some d)) ∧ H1 d = some (exd d fs) ∧ XfC K C ∧ PySem.W.findIn K (.ref C) f = some none ∧ fs.lookup f = some v ∧ Q v H1
theorem pe_oxf (he : PE X e te) (hb : attributeBase e f X.env (eval e X.env) = eval e X.env := by rfl) : PE X (.Attribute e f pos) (tOxf X.K f te) := by
  refine ⟨fun pins s σ H Q I h => ?_⟩
  refine attr_of hb (thn (he.run pins s σ H _ I h) fun u s1 hh => ?_)
  obtain ⟨x, H1, I1, rx, a, C, dd, fs, v, ex, ea, ed, T, hno, l, q⟩ := hh
  subst ex
  obtain rfl : u = Value.ref a := rx
  obtain ⟨t1, ha⟩ := exo_at I1.hok ea
  obtain ⟨mA, hns, hr⟩ := exd_at I1.hok ed
  obtain ⟨od, ho, hl⟩ := lookIn_ns hns
  obtain ⟨u, hu, ru⟩ := RelO.some_of (v := v) (o := mA f) (by rw [← l]; exact hr f)
  have J : PySem.W.InstAt s1.heap a _ C (some od) := ⟨ha, rfl, rfl, ho⟩
  exact HandSPX.exc_get I1.kIn J T.ga T.gg T.exC (PySem.W.findObj_own T.hdC hno rfl (by rw [hl, hu])) (handed_of ru) ⟨v, H1, I1.tok _, ru, q⟩
/-- what the class C must say, so that isinstance asks its instances rightly -/
structure IsC (K : PySem.W.Frag) (C : Addr) : Prop where
  hc : (PySem.W.clsIn K C).isSome = true
  ha : PySem.W.findIn K (.ref C) "__class__" = some (some (.builtin "object.__class__"))
  hn : PySem.W.specialIn K (.builtin "object.__class__") "__get__" = some (some (.builtin "getset_descriptor.__get__"))
  ht : PySem.W.takesIn K (.builtin "object.__class__") = some true
  hm : PySem.W.mroIn K C (.type "object") = some true
def isCB (K : PySem.W.Frag) (C : Addr) : Bool := (PySem.W.clsIn K C).isSome && (decide (PySem.W.findIn K (.ref C) "__class__" = some (some (.builtin "object.__class__"))) && (decide (PySem.W.specialIn K (.builtin "object.__class__") "__get__" = some (some (.builtin "getset_descriptor.__get__"))) && (decide (PySem.W.takesIn K (.builtin "object.__class__") = some true) && decide (PySem.W.mroIn K C (.type "object") = some true))))
theorem isCB_ok {K : PySem.W.Frag} {C : Addr} (h : isCB K C = true) : IsC K C := by
  obtain ⟨h1, h⟩ := Bool.and_eq_true_iff.mp h
  obtain ⟨h2, h⟩ := Bool.and_eq_true_iff.mp h
  obtain ⟨h3, h⟩ := Bool.and_eq_true_iff.mp h
  obtain ⟨h4, h5⟩ := Bool.and_eq_true_iff.mp h
  exact ⟨h1, of_decide_eq_true h2, of_decide_eq_true h3, of_decide_eq_true h4, of_decide_eq_true h5⟩
/-- isinstance(e, c), e an exception that is held as a value -/
def rIsX (K : PySem.W.Frag) : List V → Hp → VK → Prop := fun xs H Q => ∃ (a C d : Addr) (fs : List (Str × V)) (c : V) (cv : Value) (b : Bool), xs = [.ref a, c] ∧ H a = some (exo a C (some d)) ∧ H d = some (exd d fs) ∧ XfC K C ∧ IsC K C ∧ ClsV c cv ∧ PySem.W.kitOne K (.ref C) cv = some b ∧ Q (.bl b) H
theorem call_isX : CallR X (.builtin "isinstance") (rIsX X.K) := by
  intro pins s σ H xs us Q I r h
  obtain ⟨a, C, d, fs, c, cv, b, rfl, ea, ed, T, Z, hcv, e, q⟩ := h
  obtain ⟨u1, u2, rfl, r1, r2⟩ := vals2 r
  have e2 := hcv.eq r2
  subst e2
  obtain rfl : u1 = Value.ref a := r1
  obtain ⟨t1, ha⟩ := exo_at I.hok ea
  obtain ⟨mA, hns, hr⟩ := exd_at I.hok ed
  obtain ⟨od, ho, hl⟩ := lookIn_ns hns
  have J : PySem.W.InstAt s.heap a _ C (some od) := ⟨ha, rfl, rfl, ho⟩
  exact PySem.W.kia_one (PySem.W.kitx_exc Z.hc T.ga T.gg T.exC Z.ha Z.hn Z.ht Z.hm) I.kIn J e (fun z => nomatch z) fun tk => ⟨.bl b, H, I.tok tk, rfl, q⟩
/-- isinstance(e, c), e the exception that the suite holds (its own dict at d) -/
def rIsS (K : PySem.W.Frag) (D a : Addr) : List V → Hp → VK → Prop := fun xs H Q => ∃ (c : V) (cv : Value) (b : Bool), xs = [.ref a, c] ∧ ClsV c cv ∧ PySem.W.kitOne K (.ref D) cv = some b ∧ Q (.bl b) H
/-- .. with an own dict -/
def rIsSd (K : PySem.W.Frag) (a : Addr) (cls : Value) (d : Option Addr) : List V → Hp → VK → Prop := fun xs H Q => ∃ (D dd : Addr) (fs : List (Str × V)) (c : V) (cv : Value) (b : Bool), xs = [.ref a, c] ∧ cls = .ref D ∧ d = some dd ∧ H dd = some (.xd fs) ∧ XfC K D ∧ IsC K D ∧ ClsV c cv ∧ PySem.W.kitOne K (.ref D) cv = some b ∧ Q (.bl b) H
theorem call_isSd {a : Addr} {oe : Obj} {cls : Value} {d : Option Addr} {pn : List (Addr × Obj)} (hz : Zc cls d oe) (hf : ∃ vs, oe.data = .fields vs) : CallR (X.suite a ((a, oe) :: pn)) (.builtin "isinstance") (rIsSd X.K a cls d) := by
  intro pins s σ H xs us Q I r h
  obtain ⟨D, dd, fs, c, cv, b, rfl, ec, ed, hd, T, Z, hcv, e, q⟩ := h
  obtain ⟨u1, u2, rfl, r1, r2⟩ := vals2 r
  have e2 := hcv.eq r2
  subst e2
  obtain rfl : u1 = Value.ref a := r1
  subst ec
  subst ed
  obtain ⟨hget, _⟩ := I.pin (a, oe) (List.mem_append_left _ List.mem_cons_self)
  obtain ⟨vs, hv⟩ := hf
  have hx : ObjOk X.prog X.w H s.heap dd (.xd fs) := I.hok dd _ hd
  obtain ⟨mA, hns, hr⟩ := hx
  obtain ⟨od, ho, hl⟩ := lookIn_ns hns
  have J : PySem.W.InstAt s.heap a oe D (some od) := ⟨hget, hz.1, by unfold PySem.W.notCls; rw [hv] <;> rfl, by rw [hz.2]; exact ho⟩
  exact PySem.W.kia_one (PySem.W.kitx_exc Z.hc T.ga T.gg T.exC Z.ha Z.hn Z.ht Z.hm) I.kIn J e (fun z => nomatch z) fun tk => ⟨.bl b, H, I.kept (t' := tk) fun _ _ z => z, rfl, q⟩
end
end Ex

/-! Loops and comprehensions over data. -/
namespace Dx
open PySem PySem.Spec PyProof.Rows L2 Evl

/-! ### a list or a tuple walked -/
def iSeq (K : PySem.W.Frag) (tl : TE) : TI := fun σ H R => tl σ H fun x H1 => ∃ a, x = .ref a ∧ (((∃ xs, SqL K H1 a xs) ∧ R (Itl K a) H1) ∨ ((∃ xs, SqT K H1 a xs) ∧ R (Itt K a) H1))
theorem pi_seq {X : Cx} {tg l : Expr} {tl : TE} (hl : PE X l tl) : PI X tg l (iSeq X.K tl) := by
  refine ⟨fun pins s σ H R I h => ?_⟩
  refine thn (hl.run pins s σ H _ I h) fun v s1 ⟨x, H1, I1, r1, q1⟩ => ?_
  obtain ⟨a, e, q⟩ := q1
  subst e
  cases r1
  rcases q with ⟨⟨xs, hq⟩, q⟩ | ⟨⟨xs, hq⟩, q⟩
  · obtain ⟨its, rv, p, hz⟩ := I1.list hq
    refine wpAny_pyIter_list p.isList ?_
    refine ⟨s1.heap.objs.size, [s1.heap.objs.size], _, _, H1, rfl, I1.kept (t' := s1.toks) fun b o e => Heap.get?_push_of_some _ e, turn_list a _, ⟨_, Heap.get?_push_size _ rfl, rfl, rfl⟩, fun b hb => ?_, q⟩
    have e : b = s1.heap.objs.size := by simpa using hb
    subst e
    exact I1.fpOk (Nat.le_refl _) (I1.hok.fresh (Nat.le_refl _))
  · obtain ⟨its, rv, p, hz⟩ := I1.tuple hq
    refine wpAny_pyIter_tuple (show s1.heap.IsTuple a its.toArray from p) ?_
    refine ⟨s1.heap.objs.size, [s1.heap.objs.size], _, _, H1, rfl, I1.kept (t' := s1.toks) fun b o e => Heap.get?_push_of_some _ e, turn_tuple a _, ⟨_, Heap.get?_push_size _ rfl, rfl, rfl⟩, fun b hb => ?_, q⟩
    have e : b = s1.heap.objs.size := by simpa using hb
    subst e
    exact I1.fpOk (Nat.le_refl _) (I1.hok.fresh (Nat.le_refl _))
/-- a value that is a list or tuple of items of which Ps holds -/
def SqV (K : PySem.W.Frag) (Ps : List V → Hp → Prop) : PV := fun v B => ∃ l vs, v = .ref l ∧ (SqL K B l vs ∨ SqT K B l vs) ∧ Ps vs B
theorem sqv_lst {K : PySem.W.Frag} {B : Hp} {v : V} {ds : List PyData} (h : Dd K B v (.list ds)) : SqV K (DDs K ds) v B := by
  obtain ⟨a, xs, rfl, h1, l1, g1⟩ := dd_lst h
  exact ⟨a, xs, rfl, .inl (sq_of h1), g1⟩
theorem sqv_tup {K : PySem.W.Frag} {B : Hp} {v : V} {ds : List PyData} (h : Dd K B v (.tuple ds)) : SqV K (DDs K ds) v B := by
  obtain ⟨a, xs, rfl, h1, l1, g1⟩ := dd_tup h
  exact ⟨a, xs, rfl, .inr h1, g1⟩

section
variable {F : Fm} {K : PySem.W.Frag} {σ : L2.St} {B0 H0 B H : Hp} {D : Ends} {tb tz : TS} {tl te : TE} {tt : TT} {j : Nat} {ds : List PyData} {Ps : List V → Hp → Prop}
theorem ev_seqL (h : ED F K tl σ B (.list ds)) : EV F tl σ B (SqV K (DDs K ds)) := h.imp fun _ _ _ p => sqv_lst p
theorem ev_seqT (h : ED F K tl σ B (.tuple ds)) : EV F tl σ B (SqV K (DDs K ds)) := h.imp fun _ _ _ p => sqv_tup p
/-- where a loop's turn stands -/
def Lp (F : Fm) (B0 H0 B : Hp) (I : L2.St → Hp → Prop) : L2.St → Hp → Prop := fun σ' H' => ∃ B', Ex B B' ∧ At F B0 H0 B' H' ∧ I σ' B'
theorem sv_for (a : At F B0 H0 B H) (h : EV F tl σ B (SqV K Ps)) (n : Nat) (hn : ∀ vs B1, Ps vs B1 → vs.length = n) (hu : Upcs Ps) (I : Nat → L2.St → Hp → Prop) (h0 : ∀ B1, Ex B B1 → I 0 σ B1)
    (hs : ∀ Bb i v vs σ' B1 H1, Ex B Bb → vs[i]? = some v → Ps vs B1 → Ex Bb B1 → At F B0 H0 B1 H1 → I i σ' B1 → tb { D with nx := Lp F B0 H0 Bb (I (i + 1)), ct := Lp F B0 H0 Bb (I (i + 1)), bk := D.nx } (σ'.set j (some v)) H1)
    (hd : ∀ σ' B1 H1, Ex B B1 → At F B0 H0 B1 H1 → I n σ' B1 → D.nx σ' H1) : tFor (iSeq K tl) (gName j) tb D σ H := by
  refine h B (Ex.refl B) H a.j _ fun v B1 H1 s1 j1 p => ?_
  obtain ⟨l, vs, rfl, hl, ps⟩ := p
  have a1 := a.next s1 j1
  have en := hn vs B1 ps
  refine ⟨l, rfl, ?_⟩
  rcases hl with hl | hl
  · refine .inl ⟨⟨vs, ex_l j1.e hl⟩, for_list (K := K) (xs := vs) (fun i => Lp F B0 H0 B1 (I i)) ⟨B1, Ex.refl B1, a1, h0 B1 s1.bb⟩ (fun i σ' H' _ ⟨B', e, a', _⟩ => ex_l a'.e (ex_l e hl)) (fun i x σ' H' hx ⟨B', e, a', hi⟩ => ?_) (fun σ' H' ⟨B', e, a', hi⟩ => hd σ' B' H' (s1.bb.trans e) a' (en ▸ hi))⟩
    exact hs B1 i x vs σ' B' H' s1.bb hx (hu _ _ _ e ps) e a' hi
  · refine .inr ⟨⟨vs, ex_t j1.e hl⟩, for_tup (K := K) (xs := vs) (fun i => Lp F B0 H0 B1 (I i)) ⟨B1, Ex.refl B1, a1, h0 B1 s1.bb⟩ (fun i σ' H' _ ⟨B', e, a', _⟩ => ex_t a'.e (ex_t e hl)) (fun i x σ' H' hx ⟨B', e, a', hi⟩ => ?_) (fun σ' H' ⟨B', e, a', hi⟩ => hd σ' B' H' (s1.bb.trans e) a' (en ▸ hi))⟩
    exact hs B1 i x vs σ' B' H' s1.bb hx (hu _ _ _ e ps) e a' hi
theorem qv_for (a : At F B0 H0 B H) (h : EV F tl σ B (SqV K Ps)) (n : Nat) (hn : ∀ vs B1, Ps vs B1 → vs.length = n) (hu : Upcs Ps) (I : Nat → L2.St → Hp → Prop) (h0 : ∀ B1, Ex B B1 → I 0 σ B1)
    (hs : ∀ Bb i v vs σ' B1 H1, Ex B Bb → vs[i]? = some v → Ps vs B1 → Ex Bb B1 → At F B0 H0 B1 H1 → I i σ' B1 → tb { D with nx := Lp F B0 H0 Bb (I (i + 1)), ct := Lp F B0 H0 Bb (I (i + 1)), bk := tz D } (σ'.set j (some v)) H1)
    (hd : ∀ σ' B1 H1, Ex B B1 → At F B0 H0 B1 H1 → I n σ' B1 → tz D σ' H1) : tSeq (tFor (iSeq K tl) (gName j) tb) tz D σ H := sv_for (D := { D with nx := tz D }) a h n hn hu I h0 hs hd
/-- over data -/
theorem qd_for (a : At F B0 H0 B H) (h : EV F tl σ B (SqV K (DDs K ds))) (I : Nat → L2.St → Hp → Prop) (h0 : ∀ B1, Ex B B1 → I 0 σ B1)
    (hs : ∀ Bb i v d σ' B1 H1, Ex B Bb → ds[i]? = some d → Dd K B1 v d → Ex Bb B1 → At F B0 H0 B1 H1 → I i σ' B1 → tb { D with nx := Lp F B0 H0 Bb (I (i + 1)), ct := Lp F B0 H0 Bb (I (i + 1)), bk := tz D } (σ'.set j (some v)) H1)
    (hd : ∀ σ' B1 H1, Ex B B1 → At F B0 H0 B1 H1 → I ds.length σ' B1 → tz D σ' H1) : tSeq (tFor (iSeq K tl) (gName j) tb) tz D σ H :=
  qv_for a h ds.length (fun vs B1 p => DdAll.len p) upc_dds I h0 (fun Bb i v vs σ' B1 H1 e0 hv ps e a' hi => by
    obtain ⟨d, h1, h2⟩ := DdAll.getv (show DdAll K B1 vs ds from ps) hv
    exact hs Bb i v d σ' B1 H1 e0 h1 h2 e a' hi) hd
/-- over range(n) -/
theorem qd_forR {ta : TA} {n : Int} (a : At F B0 H0 B H) (h : EDs F K ta σ B [.int n]) (hn : -4611686018427387904 ≤ n ∧ n < 4611686018427387904) (I : Nat → L2.St → Hp → Prop) (h0 : ∀ B1, Ex B B1 → I 0 σ B1)
    (hs : ∀ Bb (i : Nat) σ' B1 H1, Ex B Bb → (i : Int) < n → Ex Bb B1 → At F B0 H0 B1 H1 → I i σ' B1 → tb { D with nx := Lp F B0 H0 Bb (I (i + 1)), ct := Lp F B0 H0 Bb (I (i + 1)), bk := tz D } (σ'.set j (some (.int (i : Int)))) H1)
    (hd : ∀ σ' B1 H1, Ex B B1 → At F B0 H0 B1 H1 → I n.toNat σ' B1 → tz D σ' H1) : tSeq (tFor (iRng1 ta) (gName j) tb) tz D σ H := by
  refine h B (Ex.refl B) H a.j _ fun vs B1 H1 s1 j1 p => ?_
  have a1 := a.next s1 j1
  cases p with
  | cons p t =>
    cases t
    obtain rfl := dd_int p
    refine ⟨n, rfl, hn.1, hn.2, for_range (lo := 0) (n := n.toNat) (D := { D with nx := tz D }) (fun i => Lp F B0 H0 B1 (I i)) ⟨B1, Ex.refl B1, a1, h0 B1 s1.bb⟩ (fun i σ' H' hx ⟨B', e, a', hi⟩ => ?_) (fun σ' H' ⟨B', e, a', hi⟩ => hd σ' B' H' (s1.bb.trans e) a' hi)⟩
    have e0 : (0 : Int) + (i : Int) = (i : Int) := Int.zero_add _
    show tb _ (σ'.set j (some (.int ((0 : Int) + (i : Int))))) H'
    rw [e0]
    exact hs B1 i σ' B' H' s1.bb (by omega) e a' hi
/-- while -/
theorem qv_while {t : TT} (a : At F B0 H0 B H) (W : Nat → L2.St → Hp → Prop) (m0 : Nat) (h0 : W m0 σ B)
    (hs : ∀ m σ' B1 H1, Ex B B1 → At F B0 H0 B1 H1 → W m σ' B1 → ∃ b, ETt F t σ' B1 b ∧ (b = true → ∀ B2 H2, Ex B1 B2 → At F B0 H0 B2 H2 → tb { D with nx := fun σ2 H3 => ∃ m', m' < m ∧ Lp F B0 H0 B (W m') σ2 H3, ct := fun σ2 H3 => ∃ m', m' < m ∧ Lp F B0 H0 B (W m') σ2 H3, bk := tz D } σ' H2) ∧
      (b = false → ∀ B2 H2, Ex B1 B2 → At F B0 H0 B2 H2 → tz D σ' H2)) : tSeq (tWhile t tb) tz D σ H := by
  refine ⟨fun m => Lp F B0 H0 B (W m), ⟨m0, B, Ex.refl B, a, h0⟩, fun m σ' H' ⟨B1, e, a1, hw⟩ => ?_⟩
  obtain ⟨b, hb, h1, h2⟩ := hs m σ' B1 H' e a1 hw
  refine hb B1 (Ex.refl B1) H' a1.j _ fun B2 H2 s2 j2 => ?_
  cases b with
  | true => exact ⟨_, fun σ2 H3 q => q, h1 rfl B2 H2 s2.bb (a1.next s2 j2)⟩
  | false => exact h2 rfl B2 H2 s2.bb (a1.next s2 j2)
end

/-! ### comprehensions -/
section
variable {F : Fm} {K : PySem.W.Frag} {σ : L2.St} {B : Hp} {tl te : TE} {tt : TT} {j : Nat} {ds : List PyData} {vsN : List Nat}
/-- the list that grows at Dl; B1, H1: ahead of it -/
def Cq (F : Fm) (K : PySem.W.Frag) (B1 H1 : Hp) (Dl : Addr) (ds : List PyData) (H' : Hp) : Prop := ∃ B' acc, Step F.M B1 H1 B' H' ∧ Ok F B' H' ∧ B' Dl = none ∧ H' Dl = some (.lst acc) ∧ DdAll K B' acc ds
theorem cq_start {B1 H1 : Hp} {Dl : Addr} (k : Ok F B1 H1) (hD : H1 Dl = none) : Cq F K B1 H1 Dl [] (upd H1 Dl (.lst [])) := by
  have hb : B1 Dl = none := fresh_back k.e hD
  have s : Step F.M B1 H1 B1 (upd H1 Dl (.lst [])) := ⟨Ex.refl B1, fun a o h => by rw [upd_ne (ne_of_none h hb)]; exact k.e a o h, fun a o _ h => by rw [upd_ne (ne_of_none h hD)]; exact h, fun a h _ => h, fun a n => by
    have ha : a ≠ Dl := fun z => n (z ▸ hD)
    rw [upd_ne ha]
    exact n⟩
  exact ⟨B1, [], s, k.next s (F.up _ _ (Ex.new hD) k.j), hb, upd_same, .nil⟩
/-- one item more -/
theorem cq_more {B1 H1 B' H' : Hp} {Dl : Addr} {acc : List V} {d : PyData} {ds : List PyData} {y : V} (hD : H1 Dl = none) (k1 : Ok F B1 H1) (s : Step F.M B1 H1 B' H') (k : Ok F B' H') (hb : B' Dl = none) (hd : H' Dl = some (.lst acc)) (ha : DdAll K B' acc ds) (hy : Dd K B' y d) :
    Cq F K B1 H1 Dl (ds ++ [d]) (upd H' Dl (.lst (acc ++ [y]))) := by
  have nm : ¬ F.M Dl := fun m => F.lv H1 Dl k1.j m hD
  have s2 : Step F.M B1 H1 B' (upd H' Dl (.lst (acc ++ [y]))) := ⟨s.bb, fun a o h => by rw [upd_ne (ne_of_none h hb)]; exact k.e a o h, fun a o n h => by rw [upd_ne (ne_of_none h hD)]; exact s.keep a o n h, s.sep, fun a n => by
    have ha : a ≠ Dl := fun z => n (z ▸ hD)
    rw [upd_ne ha]
    exact s.live a n⟩
  have j2 : F.J (upd H' Dl (.lst (acc ++ [y]))) := by
    -- J holds of H' and of what stands in it: the new list is none of M
    exact F.fr H' Dl _ k.j nm
  exact ⟨B', acc ++ [y], s2, k1.next s2 j2, hb, upd_same, ha.snoc hy⟩
/-- what stands is data -/
theorem cq_done {B1 H1 H' : Hp} {Dl : Addr} {ds : List PyData} (k1 : Ok F B1 H1) (hD : H1 Dl = none) (hl : ds.length ≤ 16777216) (c : Cq F K B1 H1 Dl ds H') : ∃ B2, Step F.M B1 H1 B2 H' ∧ Ok F B2 H' ∧ Dd K B2 (.ref Dl) (.list ds) := by
  obtain ⟨B', acc, s, k, hb, hd, ha⟩ := c
  have s2 : Step F.M B1 H1 (upd B' Dl (.lst acc)) H' := ⟨s.bb.trans (Ex.new hb), fun a o h => by
    by_cases e : a = Dl
    · subst e
      rw [upd_same] at h
      rw [hd]
      exact h
    · rw [upd_ne e] at h
      exact k.e a o h, s.keep, fun a h n => by
    have e : a ≠ Dl := fun z => n (z ▸ hD)
    rw [upd_ne e]
    exact s.sep a h n, s.live⟩
  exact ⟨_, s2, k1.next s2 k.j, .lst upd_same (by rw [ha.len, sizeLine_eq]; exact hl) (ha.up (Ex.new hb))⟩
/-- one turn, with its test -/
theorem cq_turn {B1 H1 H' : Hp} {Dl : Addr} {acc0 : List PyData} {σ2 : L2.St} {bb : Bool} {d : PyData} (k1 : Ok F B1 H1) (hD : H1 Dl = none) (hl : acc0.length < 16777216) (c : Cq F K B1 H1 Dl acc0 H')
    (ht : ∀ B', Ex B1 B' → ETt F tt σ2 B' bb) (he : bb = true → ∀ B', Ex B1 B' → ED F K te σ2 B' d) :
    tt σ2 H' fun b H3 => if b = true then te σ2 H3 fun y H4 => ∃ acc, H4 Dl = some (.lst acc) ∧ acc.length < sizeLine ∧ Cq F K B1 H1 Dl (acc0 ++ (if bb = true then [d] else [])) (upd H4 Dl (.lst (acc ++ [y]))) else Cq F K B1 H1 Dl (acc0 ++ (if bb = true then [d] else [])) H3 := by
  obtain ⟨B', acc, s, k, hb, hd, ha⟩ := c
  have nm : ¬ F.M Dl := fun m => F.lv H1 Dl k1.j m hD
  have lv : H' Dl ≠ none := by
    rw [hd]
    exact fun z => nomatch z
  refine ht B' s.bb B' (Ex.refl B') H' k _ fun B3 H3 s3 k3 => ?_
  have hb3 := s3.sep Dl hb lv
  have hd3 := s3.keep Dl _ nm hd
  cases bb with
  | true =>
    show te σ2 H3 _
    refine he rfl B3 (s.bb.trans s3.bb) B3 (Ex.refl B3) H3 k3 _ fun y B4 H4 s4 k4 g => ?_
    have lv3 : H3 Dl ≠ none := s3.live Dl lv
    refine ⟨acc, s4.keep Dl _ nm hd3, ?_, ?_⟩
    · rw [ha.len, sizeLine_eq]
      exact hl
    · exact cq_more hD k1 ((s.trans s3).trans s4) k4 (s4.sep Dl hb3 lv3) (s4.keep Dl _ nm hd3) (ha.up (s3.bb.trans s4.bb)) g
  | false =>
    show Cq F K B1 H1 Dl (acc0 ++ []) H3
    rw [List.append_nil]
    exact ⟨B3, acc, s.trans s3, k3, hb3, hd3, ha.up s3.bb⟩
theorem filter_snoc {α : Type} (p : α → Bool) (g : α → PyData) (l : List α) (x : α) : ((l ++ [x]).filter p).map g = (l.filter p).map g ++ (if p x = true then [g x] else []) := by
  rw [List.filter_append, List.map_append]
  congr 1
  by_cases h : p x = true
  · rw [if_pos h, List.filter_cons, if_pos h]
    rfl
  · rw [if_neg h, List.filter_cons, if_neg h]
    rfl
theorem take_snoc {α : Type} {l : List α} {i : Nat} {x : α} (h : l[i]? = some x) : l.take (i + 1) = l.take i ++ [x] := by
  rw [List.take_add_one, h]
  rfl
/-- [te for x in a list or tuple of data if tt] -/
theorem ed_lcD (p : PyData → Bool) (g : PyData → PyData) (h : EV F tl σ B (SqV K (DDs K ds))) (hz : ds.length ≤ 16777216) (hw : ∀ x, wipe ((wipe σ vsN).set j (some x)) vsN = wipe σ vsN)
    (ht : ∀ d v B1, d ∈ ds → Ex B B1 → Dd K B1 v d → ETt F tt ((wipe σ vsN).set j (some v)) B1 (p d))
    (he : ∀ d v B1, d ∈ ds → p d = true → Ex B B1 → Dd K B1 v d → ED F K te ((wipe σ vsN).set j (some v)) B1 (g d)) :
    ED F K (tLc (iSeq K tl) (gName j) tt te vsN) σ B (.list ((ds.filter p).map g)) := fun B0 e0 H0 k0 Q q => by
  refine h B0 e0 H0 k0 _ fun v B1 H1 s1 k1 pv => ?_
  obtain ⟨l, vs, rfl, hl, ps⟩ := pv
  have ps' : DdAll K B1 vs ds := ps
  have en := ps'.len
  have fl : ∀ i, ((ds.take i).filter p).length ≤ i := fun i => Nat.le_trans (List.length_filter_le _ _) (by rw [List.length_take]; exact Nat.min_le_left _ _)
  have turn : ∀ (Dl : Addr), H1 Dl = none → ∀ i x H', vs[i]? = some x → Cq F K B1 H1 Dl (((ds.take i).filter p).map g) H' → gName j x (wipe σ vsN) H' fun σ2 H2 => wipe σ2 vsN = wipe σ vsN ∧ tt σ2 H2 fun b H3 =>
      if b = true then te σ2 H3 fun y H4 => ∃ acc, H4 Dl = some (.lst acc) ∧ acc.length < sizeLine ∧ Cq F K B1 H1 Dl (((ds.take (i + 1)).filter p).map g) (upd H4 Dl (.lst (acc ++ [y]))) else Cq F K B1 H1 Dl (((ds.take (i + 1)).filter p).map g) H3 := by
    intro Dl hD i x H' hx c
    obtain ⟨d, hd, hdv⟩ := ps'.getv hx
    have hm : d ∈ ds := List.mem_of_getElem? hd
    have hi : i < ds.length := (List.getElem?_eq_some_iff.mp hd).1
    refine ⟨hw x, ?_⟩
    rw [take_snoc hd, filter_snoc]
    exact cq_turn k1 hD (by rw [List.length_map]; exact Nat.lt_of_le_of_lt (fl i) (by omega)) c (fun B' e => ht d x B' hm ((e0.trans s1.bb).trans e) (hdv.up e)) (fun hp B' e => he d x B' hm hp ((e0.trans s1.bb).trans e) (hdv.up e))
  have fin : ∀ (Dl : Addr), H1 Dl = none → ∀ H', Cq F K B1 H1 Dl (((ds.take vs.length).filter p).map g) H' → Q (.ref Dl) H' := by
    intro Dl hD H' c
    rw [en, List.take_length] at c
    obtain ⟨B2, s2, k2, g2⟩ := cq_done k1 hD (by rw [List.length_map]; exact Nat.le_trans (List.length_filter_le _ _) hz) c
    exact q _ B2 H' (s1.trans s2) k2 g2
  refine ⟨l, rfl, ?_⟩
  rcases hl with hl | hl
  · refine .inl ⟨⟨vs, ex_l k1.e hl⟩, fun Dl hD => lc_list (K := K) (xs := vs) (fun i => Cq F K B1 H1 Dl (((ds.take i).filter p).map g)) (cq_start k1 hD) (fun i H' _ c => ?_) (fun i x H' hx c => turn Dl hD i x H' hx c) (fun H' c => fin Dl hD H' c)⟩
    obtain ⟨B', acc, s, k, _⟩ := c
    exact ex_l k.e (ex_l s.bb hl)
  · refine .inr ⟨⟨vs, ex_t k1.e hl⟩, fun Dl hD => lc_tup (K := K) (xs := vs) (fun i => Cq F K B1 H1 Dl (((ds.take i).filter p).map g)) (cq_start k1 hD) (fun i H' _ c => ?_) (fun i x H' hx c => turn Dl hD i x H' hx c) (fun H' c => fin Dl hD H' c)⟩
    obtain ⟨B', acc, s, k, _⟩ := c
    exact ex_t k.e (ex_t s.bb hl)
/-- [te for i in range(n) if tt] -/
theorem ed_lcR {ta : TA} {n : Int} (p : Nat → Bool) (g : Nat → PyData) (h : EDs F K ta σ B [.int n]) (hn : -4611686018427387904 ≤ n ∧ n ≤ 16777216) (hw : ∀ x, wipe ((wipe σ vsN).set j (some x)) vsN = wipe σ vsN)
    (ht : ∀ (i : Nat) B1, (i : Int) < n → Ex B B1 → ETt F tt ((wipe σ vsN).set j (some (.int (i : Int)))) B1 (p i))
    (he : ∀ (i : Nat) B1, (i : Int) < n → p i = true → Ex B B1 → ED F K te ((wipe σ vsN).set j (some (.int (i : Int)))) B1 (g i)) :
    ED F K (tLc (iRng1 ta) (gName j) tt te vsN) σ B (.list (((List.range n.toNat).filter p).map g)) := fun B0 e0 H0 k0 Q q => by
  refine h B0 e0 H0 k0 _ fun vs B1 H1 s1 k1 pv => ?_
  cases pv with
  | cons pv t =>
    cases t
    obtain rfl := dd_int pv
    have fl : ∀ i, ((List.range i).filter p).length ≤ i := fun i => Nat.le_trans (List.length_filter_le _ _) (by rw [List.length_range]; exact Nat.le_refl _)
    refine ⟨n, rfl, hn.1, by omega, fun Dl hD => lc_range (lo := 0) (n := n.toNat) (fun i => Cq F K B1 H1 Dl (((List.range i).filter p).map g)) (cq_start k1 hD) (fun i H' hi c => ?_) (fun H' c => ?_)⟩
    · have e1 : (0 : Int) + (i : Int) = (i : Int) := Int.zero_add _
      show wipe ((wipe σ vsN).set j (some (.int ((0 : Int) + (i : Int))))) vsN = wipe σ vsN ∧ tt ((wipe σ vsN).set j (some (.int ((0 : Int) + (i : Int))))) H' _
      rw [e1]
      refine ⟨hw _, ?_⟩
      rw [List.range_succ, filter_snoc]
      exact cq_turn k1 hD (by rw [List.length_map]; exact Nat.lt_of_le_of_lt (fl i) (by omega)) c (fun B' e => ht i B' (by omega) ((e0.trans s1.bb).trans e)) (fun hp B' e => he i B' (by omega) hp ((e0.trans s1.bb).trans e))
    · obtain ⟨B2, s2, k2, g2⟩ := cq_done k1 hD (by rw [List.length_map]; exact Nat.le_trans (fl _) (by omega)) c
      exact q _ B2 H' (s1.trans s2) k2 g2
/-- no test -/
theorem et_yes {σ : L2.St} : ETt F tYes σ B true := fun B1 e0 H k Q q => q B1 H (Step.refl k.e) k
end
end Dx

/-! Defs that are called, boxes of draws, exceptions as values. -/
namespace Dx
open PySem PySem.Spec PyProof.Rows L2 Evl Ex

/-! ### built-in names -/
theorem bt_len : bootBuiltins "len" = some (.builtin "len") := by decide +kernel
theorem bt_abs : bootBuiltins "abs" = some (.builtin "abs") := by decide +kernel
theorem bt_isinstance : bootBuiltins "isinstance" = some (.builtin "isinstance") := by decide +kernel
theorem bt_all : bootBuiltins "all" = some (.builtin "all") := by decide +kernel
theorem bt_any : bootBuiltins "any" = some (.builtin "any") := by decide +kernel
theorem bt_int : bootBuiltins "int" = some (.type "int") := by decide +kernel
theorem bt_str : bootBuiltins "str" = some (.type "str") := by decide +kernel
theorem bt_bool : bootBuiltins "bool" = some (.type "bool") := by decide +kernel
theorem bt_tuple : bootBuiltins "tuple" = some (.type "tuple") := by decide +kernel
theorem bt_list : bootBuiltins "list" = some (.type "list") := by decide +kernel
theorem bt_ValueError : bootBuiltins "ValueError" = some (.type "ValueError") := by decide +kernel

/-! ### a def that others call -/
structure Callee (P : Program) (w : World) (K : PySem.W.Frag) (mg : Str → Option Value) (base : Heap) (x : Str) (k : Nat) (ps : List Str) (sp : Sp) : Prop where
  ex : ∃ f fd, FnOk P w K mg base CX0 k f fd ps sp ∧ mg x = some (.ref f) ∧ PySem.W.keepIn K (.ref f) = true ∧ Binds K fd ps []
section
variable {X : Cx} {x : Str} {k : Nat} {ps : List Str} {sp : Sp} {E : XK} {e : Expr} {es : List Expr} {t : TA} {p pos : Pos}
theorem pe_callC (C : Callee X.prog X.w X.K X.mg X.base x k ps sp) (hr : Room k X.A) (hg : Gl X x) (hx : Passes CX0 X E) (ha : PA X (e :: es) t) (hdb : (x == ("__debug__" : Str)) = false := by decide)
    (he : starEach (e :: es) X.env = (false, eval e X.env) :: starEach es X.env := by rfl) (hpl : (backTo pos (starEach es X.env)).any (·.1) = false := by rfl) :
    PE X (.Call (.Name x p) (e :: es) [] pos) (tCall sp [] E t) := by
  obtain ⟨f, fd, F, hm, hk, hb⟩ := C.ex
  exact pe_call F hr hg hm hk hb .nil hx ha hdb he hpl
theorem pe_callC0 (C : Callee X.prog X.w X.K X.mg X.base x k ps sp) (hr : Room k X.A) (hg : Gl X x) (hx : Passes CX0 X E) (hdb : (x == ("__debug__" : Str)) = false := by decide) :
    PE X (.Call (.Name x p) [] [] pos) (tCall sp [] E tNil) := by
  obtain ⟨f, fd, F, hm, hk, hb⟩ := C.ex
  exact pe_call0 F hr hg hm hk hb .nil hx hdb
theorem pe_gint {i : Int} (hg : Gl X x) (hm : ∃ t, X.mg x = some (.int i t)) (hd : (x == ("__debug__" : Str)) = false := by decide) : PE X (.Name x pos) (tC (.int i)) := by
  obtain ⟨t, hm⟩ := hm
  exact pe_glob hg hm ⟨t, rfl⟩ hd
end

/-! ### a box of draws -/
def bxJ (p : Addr) (H : Hp) : Prop := ∃ g s : Int, H p = some (.lst [.int g, .int s])
theorem bxJ_live {p a : Addr} {H : Hp} (h : bxJ p H) (m : a = p) : H a ≠ none := by
  obtain ⟨g, s, h⟩ := h
  subst m
  rw [h]
  exact fun z => nomatch z
theorem bxJ_fr {p a : Addr} {H : Hp} {o : HO} (h : bxJ p H) (n : ¬ a = p) : bxJ p (upd H a o) := by
  obtain ⟨g, s, h⟩ := h
  exact ⟨g, s, by rw [upd_ne (fun z => n z.symm)]; exact h⟩
def Fm.box (p : Addr) : Fm := ⟨fun a => a = p, bxJ p, fun _ _ e ⟨g, s, h⟩ => ⟨g, s, e _ _ h⟩, fun _ _ h m => bxJ_live h m, fun _ _ _ h n => bxJ_fr h n⟩
/-- f(box, ..): draws, changes the box alone -/
def spX (K : PySem.W.Frag) (pre : List PyData → Prop) (P : List PyData → PV) : Sp := fun vs H Q _ => ∃ (p : Addr) (us : List V) (B : Hp) (ds : List PyData), vs = .ref p :: us ∧ Ok (Fm.box p) B H ∧ DdAll K B us ds ∧ pre ds ∧
  ∀ v B' H', Step (fun a => a = p) B H B' H' → Ok (Fm.box p) B' H' → P ds v B' → Q v H'
section
variable {K : PySem.W.Frag} {σ : L2.St} {B : Hp} {p : Addr} {i : Nat} {tas : TA} {ds : List PyData} {pre : List PyData → Prop} {P : List PyData → PV} {E : XK} {Z : PV}
theorem ev_X (hi : σ[i]? = some (some (.ref p))) (ha : EDs (Fm.box p) K tas σ B ds) (h : pre ds) (hz : ∀ v B1, Ex B B1 → P ds v B1 → Z v B1) : EV (Fm.box p) (tCall (spX K pre P) [] E (tCons (tVar i) tas)) σ B Z := fun B1 e0 H j Q q =>
  ⟨.ref p, hi, ha B1 e0 H j _ fun us B2 H2 s2 j2 g => by
    show spX K pre P ((V.ref p :: us) ++ []) H2 Q E
    rw [List.append_nil]
    exact ⟨p, us, B2, ds, rfl, j2, g, h, fun v B3 H3 s3 j3 pz => q v B3 H3 (s2.trans s3) j3 (hz v B3 ((e0.trans s2.bb).trans s3.bb) pz)⟩⟩
end

/-! ### exceptions as values -/
def spInit (C : Addr) (f : Str) : Sp := fun vs H Q _ => ∃ (a : Addr) (v : V), vs = [.ref a, v] ∧ H a = some (exo a C none) ∧ ∀ dx, H dx = none → dx ≠ a → Q .non (upd (upd H dx (exd dx [(f, v)])) a (exo a C (some dx)))
structure ExcAt (P : Program) (w : World) (K : PySem.W.Frag) (mg : Str → Option Value) (base : Heap) (x f : Str) (C : Addr) : Prop where
  oc : OexC K C
  xf : XfC K C
  isc : IsC K C
  no : PySem.W.findIn K (.ref C) f = some none
  g : mg x = some (.ref C)
  ini : ∃ fI fd, PySem.W.findIn K (.ref C) "__init__" = some (some (.ref fI)) ∧ PySem.W.typeIn K (.ref fI) = some (.type "function") ∧ FnOk P w K mg base CX0 1 fI fd ["self", f] (spInit C f) ∧ Binds K fd ["self", f] []
section
variable {X : Cx} {x f : Str} {C : Addr} {e : Expr} {ta : TA} {p pos : Pos}
theorem pe_mkE (c : ExcAt X.prog X.w X.K X.mg X.base x f C) (hr : Room 2 X.A) (hg : Gl X x) (ha : PA X [e] ta) (hdb : (x == ("__debug__" : Str)) = false := by decide)
    (he : starEach [e] X.env = (false, eval e X.env) :: starEach [] X.env := by rfl) (hpl : (backTo pos (starEach [] X.env)).any (·.1) = false := by rfl) :
    PE X (.Call (.Name x p) [e] [] pos) (tMkV C (spInit C f) [] ta) := by
  obtain ⟨fI, fd, h1, h2, h3, h4⟩ := c.ini
  exact pe_mkv c.oc h1 h2 h3 hr h4 .nil pass0 hg c.g ha hdb he hpl
end
/-- an error of the class at C that keeps data d under the name f -/
def EvX (K : PySem.W.Frag) (C : Addr) (f : Str) (d : PyData) : PV := fun v B => ∃ (a dx : Addr) (u : V), v = .ref a ∧ B a = some (exo a C (some dx)) ∧ B dx = some (exd dx [(f, u)]) ∧ Dd K B u d
section
variable {F : Fm} {K : PySem.W.Frag} {σ : L2.St} {B : Hp} {te : TE} {d : PyData} {C : Addr} {f : Str}
theorem upc_evx : Upc (EvX K C f d) := fun v B B' e h => by
  obtain ⟨a, dx, u, rfl, h1, h2, h3⟩ := h
  exact ⟨a, dx, u, rfl, e _ _ h1, e _ _ h2, Dd.up h3 e⟩
theorem upd3 {H : Hp} {a b : Addr} {o u v : HO} (h : b ≠ a) : upd (upd (upd H a o) b u) a v = upd (upd H b u) a v := by
  funext c
  by_cases h1 : c = a
  · subst h1
    rw [upd_same, upd_same]
  · rw [upd_ne h1, upd_ne h1]
    by_cases h2 : c = b
    · subst h2
      rw [upd_same, upd_same]
    · rw [upd_ne h2, upd_ne h2, upd_ne h1]
theorem ev_mk (h : ED F K te σ B d) : EV F (tMkV C (spInit C f) [] (tCons te tNil)) σ B (EvX K C f d) := fun B1 e0 H j Q q =>
  h B1 e0 H j _ fun v B2 H2 s2 j2 g => ⟨(by show 1 ≤ 1000; decide), fun a ha => ⟨a, v, rfl, upd_same, fun dx hdx hne => ⟨rfl, by
    have hd : H2 dx = none := by
      rw [upd_ne hne] at hdx
      exact hdx
    have ha2 : upd H2 dx (exd dx [(f, v)]) a = none := by
      rw [upd_ne (Ne.symm hne)]
      exact ha
    have s3 : Step F.M B2 H2 (upd B2 dx (exd dx [(f, v)])) (upd H2 dx (exd dx [(f, v)])) := Step.alloc j2.e hd
    have j3 := j2.alloc (o := exd dx [(f, v)]) hd
    have s4 : Step F.M _ _ (upd (upd B2 dx (exd dx [(f, v)])) a (exo a C (some dx))) (upd (upd H2 dx (exd dx [(f, v)])) a (exo a C (some dx))) := Step.alloc j3.e ha2
    have j4 := j3.alloc (o := exo a C (some dx)) ha2
    rw [upd3 hne]
    refine q (.ref a) _ _ ((s2.trans s3).trans s4) j4 ⟨a, dx, v, rfl, upd_same, ?_, Dd.up g (s3.bb.trans s4.bb)⟩
    rw [upd_ne hne]
    exact upd_same⟩⟩⟩
theorem ev_oxf (hx : XfC K C) (no : PySem.W.findIn K (.ref C) f = some none) (h : EV F te σ B (EvX K C f d)) : ED F K (tOxf K f te) σ B d := fun B1 e0 H j Q q =>
  h B1 e0 H j _ fun v B2 H2 s2 j2 ⟨a, dx, u, ev, h1, h2, h3⟩ => ⟨a, C, dx, _, u, ev, j2.e _ _ h1, j2.e _ _ h2, hx, no, (by simp [List.lookup]), q u B2 H2 s2 j2 h3⟩
theorem ev_isx {c : V} {cv : Value} {b : Bool} (hx : XfC K C) (hi : IsC K C) (hc : ClsV c cv) (hk : PySem.W.kitOne K (.ref C) cv = some b) (h : EV F te σ B (EvX K C f d)) : ED F K (tCB (rIsX K) (tCons te (tCons (tC c) tNil))) σ B (.bool b) := fun B1 e0 H j Q q =>
  h B1 e0 H j _ fun v B2 H2 s2 j2 ⟨a, dx, u, ev, h1, h2, h3⟩ => ⟨a, C, dx, _, c, cv, b, (by rw [ev]), j2.e _ _ h1, j2.e _ _ h2, hx, hi, hc, hk, q _ B2 H2 s2 j2 (.bl b)⟩
end
end Dx

/-! Instances whose __init__ may raise; errors raised; lists of errors; draws. -/
namespace Dx
open PySem PySem.Spec PyProof.Rows L2 Evl Ex

/-! ### C(..) where what is raised is wished for at the caller's slots -/
section
variable {X : Cx} {CX : CXT} {k : Nat} {C f : Addr} {fd : FuncData} {ps : List Str} {sp : Sp} {E : L2.St → XK} {x : Str} {p pos : Pos} {e : Expr} {es : List Expr} {t : TA}
def tMakeS (C : Addr) (sp : Sp) (E : L2.St → XK) (t : TA) : TE := fun σ H Q => t σ H fun vs H1 => ∀ x dx, H1 x = none → H1 dx = none → dx ≠ x → sp (.ref x :: vs) (upd (upd H1 dx (.own x)) x (.ins C dx [])) (fun v H2 => v = .non ∧ Q (.ref x) H2) (E σ)
theorem run_makeS {pins : List (Addr × Obj)} {σ : L2.St} {H : Hp} {s : Shared} {Q : VK} {us : List Value} {vs : List V} (M : Mk X.K C f) (F : FnOk X.prog X.w X.K X.mg X.base CX k f fd ps sp) (hr : Room (k + 1) X.A) (hb : Binds X.K fd ps [])
    (hx : PassesAt CX X σ (E σ)) (I : Inv X pins σ H s) (r : Vals vs us)
    (h : ∀ x dx, H x = none → H dx = none → dx ≠ x → sp (.ref x :: vs) (upd (upd H dx (.own x)) x (.ins C dx [])) (fun v H2 => v = .non ∧ Q (.ref x) H2) (E σ)) :
    wpAny (model X.prog X.w) X.A (call (.ref C) us) (EP X pins σ Q) X.xe s := by
  have hq := h (s.heap.objs.size + 1) s.heap.objs.size (I.hok.fresh (Nat.le_succ _)) (I.hok.fresh (Nat.le_refl _)) (Nat.ne_of_lt (Nat.lt_succ_self _))
  have I2 := Inv.made (C := C) I
  have r2 : Vals (V.ref (s.heap.objs.size + 1) :: vs) (Value.ref (s.heap.objs.size + 1) :: us) := .cons rfl r
  have hl : (Value.ref (s.heap.objs.size + 1) :: us ++ []).length = ps.length := by
    have e := r2.length
    rw [F.len _ _ _ _ hq] at e
    rw [List.append_nil]
    exact e.symm
  have b := hb _ (Value.ref (s.heap.objs.size + 1) :: us) I2.kIn hl
  rw [List.append_nil] at b
  refine wpAny_call (make_map (f := f) I.kIn M.makes M.init (beq_iff_eq.mp M.fn) (codeAny_mono (F.run _ X.stack _ _ ⟨Value.ref (s.heap.objs.size + 1) :: us, []⟩ (Value.ref (s.heap.objs.size + 1) :: us) _ _ (E σ) (hr.make C us [])
    (I2.env0.make C us []) b r2 hq) fun r s' hq' => ?_))
  cases r with
  | error e => exact hx pins _ _ e s' I2 hq'
  | ok fl =>
    cases fl with
    | ret u =>
      obtain ⟨v, H', I3, rv, ev, q3⟩ := I2.after hq'
      subst ev
      exact ⟨rv, ⟨V.ref (s.heap.objs.size + 1), H', I3, rfl, q3⟩⟩
    | next => exact False.elim hq'
    | brk => exact False.elim hq'
    | cont => exact False.elim hq'
theorem pe_makeS (M : Mk X.K C f) (F : FnOk X.prog X.w X.K X.mg X.base CX k f fd ps sp) (hr : Room (k + 1) X.A) (hg : Gl X x) (hm : X.mg x = some (.ref C)) (hb : Binds X.K fd ps []) (hx : ∀ σ, PassesAt CX X σ (E σ))
    (ha : PA X (e :: es) t) (hdb : (x == ("__debug__" : Str)) = false := by decide) (he : starEach (e :: es) X.env = (false, eval e X.env) :: starEach es X.env := by rfl) (hpl : (backTo pos (starEach es X.env)).any (·.1) = false := by rfl) :
    PE X (.Call (.Name x p) (e :: es) [] pos) (tMakeS C sp E t) := by
  refine ⟨fun pins s σ H Q I h => ?_⟩
  refine wpAny_Call_Name_kw (ld_glob I hg hm ?_ hdb)
  refine PySem.W.callWith_K (h₀ := X.base) I.ok.mod.kin M.kp (thn (ha.run pos pins s σ H _ I h) fun us s1 ⟨vs, H1, I1, r, q⟩ => ⟨I1.kIn, ?_⟩) he hpl
  exact run_makeS M F hr hb (hx σ) I1 r q
end

/-! ### raise X(e) -/
section
variable {X : Cx} {x f : Str} {C : Addr} {e : Expr} {ta : TA} {p pos : Pos}
theorem pmk_E (c : ExcAt X.prog X.w X.K X.mg X.base x f C) (hr : Room 2 X.A) (hg : Gl X x) (ha : PA X [e] ta) (hdb : (x == ("__debug__" : Str)) = false := by decide)
    (he : starEach [e] X.env = (false, eval e X.env) :: starEach [] X.env := by rfl) (hpl : (backTo pos (starEach [] X.env)).any (·.1) = false := by rfl) :
    PMk X (.Call (.Name x p) [e] [] pos) (tMkO C (spInit C f) [] ta) := by
  obtain ⟨fI, fd, h1, h2, h3, h4⟩ := c.ini
  exact pmk_oex c.oc h1 h2 h3 hr h4 .nil pass0 hg c.g ha hdb he hpl
end
/-- the reading of what is raised: behind a heap H1 that holds all of B; the error's own dict dd keeps v -/
theorem mk_raise {F : Fm} {P : PV} {σ : L2.St} {B H : Hp} {te : TE} {C : Addr} {f : Str} {E : XK} (k : Ok F B H) (h : EV F te σ B P)
    (q : ∀ v B1 H1 dd H', Step F.M B H B1 H1 → Ok F B1 H1 → P v B1 → H1 dd = none → Ex H1 H' → H' dd = some (.xd [(f, v)]) → E (.ref C) (some dd) H') : tMkO C (spInit C f) [] (tCons te tNil) σ H E :=
  h B (Ex.refl B) H k _ fun v B1 H1 s1 k1 p => ⟨(by show 1 ≤ 1000; decide), fun a ha => ⟨a, v, rfl, upd_same, fun dx hdx hne => ⟨rfl, dx, _, upd_same, (by rw [upd_ne hne]; exact upd_same), (by
    rw [upd_ne hne] at hdx
    exact hdx), by
    have hd : H1 dx = none := by
      rw [upd_ne hne] at hdx
      exact hdx
    refine q v B1 H1 dx _ s1 k1 p hd (fun b o hb => ?_) upd_same
    have b1 : b ≠ dx := ne_of_none hb hd
    have b2 : b ≠ a := ne_of_none hb ha
    rw [upd_ne b1, del_ne b2, upd_ne b2, upd_ne b1, upd_ne b2]
    exact hb⟩⟩⟩

/-! ### lists of errors -/
inductive AX (K : PySem.W.Frag) (d : PyData) (B : Hp) : List (Addr × Str) → List V → Prop
  | nil : AX K d B [] []
  | cons {c : Addr} {f : Str} {v : V} {cs : List (Addr × Str)} {vs : List V} : EvX K c f d v B → AX K d B cs vs → AX K d B ((c, f) :: cs) (v :: vs)
section
variable {F : Fm} {K : PySem.W.Frag} {d : PyData} {B B' : Hp} {σ : L2.St} {te : TE} {tas : TA} {cs cs' : List (Addr × Str)} {vs us : List V} {c : Addr} {f : Str}
theorem AX.up (e : Ex B B') : ∀ {cs : List (Addr × Str)} {vs : List V}, AX K d B cs vs → AX K d B' cs vs
  | _, _, .nil => .nil
  | _, _, .cons h t => .cons (upc_evx _ _ _ e h) (AX.up e t)
theorem AX.len : ∀ {cs : List (Addr × Str)} {vs : List V}, AX K d B cs vs → vs.length = cs.length
  | _, _, .nil => rfl
  | _, _, .cons _ t => by rw [List.length_cons, List.length_cons, AX.len t]
theorem AX.app : ∀ {cs cs' : List (Addr × Str)} {vs us : List V}, AX K d B cs vs → AX K d B cs' us → AX K d B (cs ++ cs') (vs ++ us)
  | _, _, _, _, .nil, h => h
  | _, _, _, _, .cons a t, h => .cons a (AX.app t h)
theorem AX.get : ∀ {cs : List (Addr × Str)} {vs : List V} {i : Nat} {v : V}, AX K d B cs vs → vs[i]? = some v → ∃ c f, cs[i]? = some (c, f) ∧ EvX K c f d v B
  | _, _, i, _, .nil, e => by simp at e
  | _, _, 0, _, .cons h _, e => by
    simp at e
    subst e
    exact ⟨_, _, rfl, h⟩
  | _, _, i + 1, v, .cons _ t, e => by
    obtain ⟨c, f, h1, h2⟩ := AX.get (i := i) (v := v) t (by simpa using e)
    exact ⟨c, f, by simpa using h1, h2⟩
theorem eax_nil : EVs F tNil σ B (fun vs B => AX K d B [] vs) := fun B1 e0 H j Q q => q [] B1 H (Step.refl j.e) j .nil
theorem eax_cons (h : EV F te σ B (EvX K c f d)) (hs : EVs F tas σ B (fun vs B => AX K d B cs vs)) : EVs F (tCons te tas) σ B (fun vs B => AX K d B ((c, f) :: cs) vs) := fun B1 e0 H j Q q =>
  h B1 e0 H j _ fun v B2 H2 s2 j2 p => hs B2 (e0.trans s2.bb) H2 j2 _ fun us B3 H3 s3 j3 ps => q (v :: us) B3 H3 (s2.trans s3) j3 (.cons (upc_evx _ _ _ s3.bb p) ps)
/-- a list of such errors -/
def LsX (K : PySem.W.Frag) (d : PyData) (cs : List (Addr × Str)) : PV := fun v B => ∃ a vs, v = .ref a ∧ B a = some (.lst vs) ∧ AX K d B cs vs
theorem upc_lsx : Upc (LsX K d cs) := fun v B B' e ⟨a, vs, h1, h2, h3⟩ => ⟨a, vs, h1, e _ _ h2, h3.up e⟩
theorem ev_lsx (h : EVs F tas σ B (fun vs B => AX K d B cs vs)) (hl : cs.length ≤ 16777216 := by exact Nat.le_of_ble_eq_true rfl) : EV F (tLst tas) σ B (LsX K d cs) :=
  h.newL (fun vs B1 _ p => by rw [AX.len p, sizeLine_eq]; exact hl) fun vs p B1 _ g hp => ⟨p, vs, rfl, upd_same, AX.up (Ex.new hp) g⟩
theorem rv_lsx (hl : cs.length + cs'.length ≤ 16777216) : RV2 F (rAddA K) B (LsX K d cs) (LsX K d cs') (LsX K d (cs ++ cs')) := fun B1 e0 H u v jj ⟨a, vs, hu, h1, g1⟩ ⟨b, us, hv, h2, g2⟩ Q q =>
  .inr (.inr (.inl ⟨a, b, vs, us, hu, hv, jj.e _ _ h1, jj.e _ _ h2, by rw [g1.len, g2.len, sizeLine_eq]; exact hl, fun p hp => q _ _ _ (Step.alloc jj.e hp) (jj.alloc hp) ⟨p, vs ++ us, rfl, upd_same, AX.up (Ex.new (fresh_back jj.e hp)) (g1.app g2)⟩⟩))
theorem rv_ixX {i : Int} (hi : 0 ≤ i ∧ i < (cs.length : Nat)) : RV2 F (rIx K) B (LsX K d cs) (DD K (.int i)) (fun v B => ∃ c f, cs[i.toNat]? = some (c, f) ∧ EvX K c f d v B) := fun B1 e0 H u v jj ⟨a, vs, hu, h1, g1⟩ hv Q q => by
  have hlt : i.toNat < vs.length := by rw [g1.len]; omega
  have hx : vs[i.toNat]? = some vs[i.toNat] := List.getElem?_eq_getElem hlt
  obtain ⟨w, hw⟩ : ∃ w, vs[i.toNat]? = some w := ⟨_, hx⟩
  obtain ⟨c, f, h2, h3⟩ := g1.get hw
  exact .inl ⟨a, vs, i, w, hu, dd_int hv, sq_of (jj.e _ _ h1), at_of (by omega) hw, q _ B1 H (Step.refl jj.e) jj ⟨c, f, h2, h3⟩⟩
theorem rc_lenX : RVc F (fun xs H Q => ∃ x n, xs = [x] ∧ LenV K x H n ∧ Q (.int (n : Nat)) H) B (fun vs B => ∃ v, vs = [v] ∧ LsX K d cs v B) (DD K (.int (cs.length : Nat))) := fun B1 e0 H us jj ⟨v, e, a, vs, hv, h1, g1⟩ Q q =>
  ⟨v, cs.length, e, by
    subst hv
    exact .inl ⟨vs, sq_of (jj.e _ _ h1), g1.len.symm⟩, q _ B1 H (Step.refl jj.e) jj (.int _)⟩
theorem evs_one {P : PV} (h : EV F te σ B P) : EVs F (tCons te tNil) σ B (fun vs B => ∃ v, vs = [v] ∧ P v B) := fun B1 e0 H j Q q =>
  h B1 e0 H j _ fun v B2 H2 s2 j2 p => q [v] B2 H2 s2 j2 ⟨v, rfl, p⟩
theorem sqv_lsx {v : V} (h : LsX K d cs v B) : SqV K (fun vs B => AX K d B cs vs) v B := by
  obtain ⟨a, vs, rfl, h1, g⟩ := h
  exact ⟨a, vs, rfl, .inl (sq_of h1), g⟩
end

/-! ### draws -/
def preT (ds : List PyData) : Prop := ∃ m : Int, ds = [.int m] ∧ 0 < m ∧ m < 1073741824
def posT (ds : List PyData) : PV := fun v _ => ∃ i m : Int, ds = [.int m] ∧ v = .int i ∧ 0 ≤ i ∧ i < m
abbrev spTake (K : PySem.W.Frag) : Sp := spX K preT posT
def itemsOf : PyData → List PyData
  | .list xs => xs
  | .tuple xs => xs
  | _ => []
def preP (ds : List PyData) : Prop := ∃ d xs, ds = [d] ∧ (d = .list xs ∨ d = .tuple xs) ∧ xs ≠ [] ∧ xs.length < 1073741824
def posP (K : PySem.W.Frag) (ds : List PyData) : PV := fun v B => ∃ d e, ds = [d] ∧ e ∈ itemsOf d ∧ Dd K B v e
abbrev spPick (K : PySem.W.Frag) : Sp := spX K preP (posP K)
section
variable {F : Fm} {K : PySem.W.Frag} {σ : L2.St} {B : Hp} {p : Addr} {i : Nat} {ta : TE} {E : XK}
theorem ev_take {m : Int} (hi : σ[i]? = some (some (.ref p))) (ha : ED (Fm.box p) K ta σ B (.int m)) (h0 : 0 < m) (h1 : m < 1073741824) : EV (Fm.box p) (tCall (spTake K) [] E (tCons (tVar i) (tCons ta tNil))) σ B (fun v _ => ∃ n : Int, v = .int n ∧ 0 ≤ n ∧ n < m) :=
  ev_X hi (eds_cons ha eds_nil) ⟨m, rfl, h0, h1⟩ fun v B1 _ ⟨n, m', e, ev, h2, h3⟩ => by
    cases e
    exact ⟨n, ev, h2, h3⟩
theorem ev_pick {d : PyData} {xs : List PyData} (hi : σ[i]? = some (some (.ref p))) (ha : ED (Fm.box p) K ta σ B d) (hd : d = .list xs ∨ d = .tuple xs) (h0 : xs ≠ []) (h1 : xs.length < 1073741824) :
    EV (Fm.box p) (tCall (spPick K) [] E (tCons (tVar i) (tCons ta tNil))) σ B (fun v B => ∃ e, e ∈ xs ∧ Dd K B v e) :=
  ev_X hi (eds_cons ha eds_nil) ⟨d, xs, rfl, hd, h0, h1⟩ fun v B1 _ ⟨d', e, ed, he, hv⟩ => by
    cases ed
    refine ⟨e, ?_, hv⟩
    rcases hd with rfl | rfl <;> exact he
/-- xs[i], i some place -/
theorem rv_pick {d : PyData} {xs : List PyData} (hd : d = .list xs ∨ d = .tuple xs) : RV2 F (rIx K) B (DD K d) (fun v _ => ∃ n : Int, v = .int n ∧ 0 ≤ n ∧ n < (xs.length : Nat)) (fun v B => ∃ e, e ∈ xs ∧ Dd K B v e) := fun B1 e0 H u v jj hu ⟨n, hv, h0, h1⟩ Q q => by
  have hlt : n.toNat < xs.length := by omega
  obtain ⟨w, hw⟩ : ∃ w, xs[n.toNat]? = some w := ⟨_, List.getElem?_eq_getElem hlt⟩
  have hm : w ∈ xs := List.mem_of_getElem? hw
  have ha : atI xs n = some w := by
    have e : n = ((n.toNat : Nat) : Int) := by omega
    have h := atI_nat hw
    rw [← e] at h
    exact h
  subst hv
  rcases hd with rfl | rfl
  · exact rd_ixL (F := F) ha B1 e0 H u (.int n) jj hu (.int n) Q fun w B2 H2 s k g => q w B2 H2 s k ⟨_, hm, g⟩
  · exact rd_ixT (F := F) ha B1 e0 H u (.int n) jj hu (.int n) Q fun w B2 H2 s k g => q w B2 H2 s k ⟨_, hm, g⟩
end
/-- _law_box(script, k): a new box -/
def spBox (K : PySem.W.Frag) : Sp := fun vs H Q _ => ∃ (a : Addr) (k : Int) (ns : List Int) (B : Hp), vs = [.ref a, .int k] ∧ Ex B H ∧ SqL K B a (ns.map V.int) ∧ ns.length ≤ 63 ∧ 0 ≤ k ∧ k ≤ 1000 ∧
  ∀ p B' H', Step (fun _ => False) B H B' H' → Ok (Fm.box p) B' H' → Q (.ref p) H'
section
variable {F : Fm} {K : PySem.W.Frag} {σ : L2.St} {B0 H0 B H : Hp} {D : Ends} {tz : TS} {i j l : Nat} {E : XK} {ta : TA} {d : PyData} {te : TE}
theorem qv_box {a : Addr} {ns : List Int} {k : Int} (e : Ex B H) (hi : σ[i]? = some (some (.ref a))) (hS : SqL K B a (ns.map V.int)) (hl : ns.length ≤ 63) (h0 : 0 ≤ k) (h1 : k ≤ 1000)
    (q : ∀ p B1 H1, Step (fun _ => False) B H B1 H1 → Ok (Fm.box p) B1 H1 → tz D (σ.set j (some (.ref p))) H1) : tSeq (tAsg (tCall (spBox K) [] E (tCons (tVar i) (tCons (tC (.int k)) tNil))) (gName j)) tz D σ H :=
  ⟨.ref a, hi, a, k, ns, B, rfl, e, hS, hl, h0, h1, q⟩
theorem qv_par3X {x y z : Addr × Str} (a : At F B0 H0 B H) (h : EVs F ta σ B (fun vs B => AX K d B [x, y, z] vs))
    (k : ∀ u v w B1 H1, Ex B B1 → At F B0 H0 B1 H1 → EvX K x.1 x.2 d u B1 → EvX K y.1 y.2 d v B1 → EvX K z.1 z.2 d w B1 → tz D (((σ.set i (some u)).set j (some v)).set l (some w)) H1) : tSeq (tPar3 i j l ta) tz D σ H :=
  h B (Ex.refl B) H a.j _ fun vs B1 H1 s1 j1 g => by
    cases g with
    | cons g1 t =>
      cases t with
      | cons g2 t =>
        cases t with
        | cons g3 t =>
          cases t
          exact ⟨_, _, _, rfl, k _ _ _ B1 H1 s1.bb (a.next s1 j1) g1 g2 g3⟩
def Sh (K : PySem.W.Frag) : PV := fun v B => ∃ d, Dd K B v d ∧ SeqAt.shaped d = true
theorem sh_of (h : ED F K te σ B d) (hs : SeqAt.shaped d = true) : EV F te σ B (Sh K) := h.imp fun v B1 _ hv => ⟨d, hv, hs⟩
end
end Dx

/-! The rules with the written part K named (also within comprehensions). -/
namespace Dx
open PySem PySem.Spec PyProof.Rows L2 Evl Ex
section
variable {X : Cx} (K : PySem.W.Frag) {e : Expr} {te : TE} {f : Str} {pos : Pos} {tg l : Expr} {tl : TE}
def rLnK (K : PySem.W.Frag) : List V → Hp → VK → Prop := fun xs H Q => ∃ x n, xs = [x] ∧ LenV K x H n ∧ Q (.int (n : Nat)) H
theorem call_lenK (hK : X.K = K := by rfl) : CallR X (.builtin "len") (rLnK K) := by subst hK; exact call_len
theorem ix_seqK (hK : X.K = K := by rfl) : IxR X (rIx K) := by subst hK; exact ix_seq
theorem op_addK (hK : X.K = K := by rfl) : OpR X (binaryOp .Add) (rAddA K) := by subst hK; exact op_addA
theorem op_eqDK (hu : X.A.units + 64 < cLine) (hK : X.K = K := by rfl) : OpR X (compareOp .Eq) (rEqD K) := by subst hK; exact op_eqD hu
theorem op_neDK (hu : X.A.units + 64 < cLine) (hK : X.K = K := by rfl) : OpR X (compareOp .NotEq) (rNeD K) := by subst hK; exact op_neD hu
theorem op_inK (hK : X.K = K := by rfl) : OpR X (compareOp .In) (rIn K false) := by subst hK; exact op_in_seq
theorem op_ninK (hK : X.K = K := by rfl) : OpR X (compareOp .NotIn) (rIn K true) := by subst hK; exact op_notIn_seq
theorem call_isiK1 (hK : X.K = K := by rfl) : CallR X (.builtin "isinstance") (rIsi K) := by subst hK; exact call_isi
theorem call_isXK (hK : X.K = K := by rfl) : CallR X (.builtin "isinstance") (rIsX K) := by subst hK; exact call_isX
theorem pe_oxfK (he : PE X e te) (hK : X.K = K := by rfl) (hb : attributeBase e f X.env (eval e X.env) = eval e X.env := by rfl) : PE X (.Attribute e f pos) (tOxf K f te) := by subst hK; exact pe_oxf he hb
theorem pe_fldK (he : PE X e te) (hK : X.K = K := by rfl) (hb : attributeBase e f X.env (eval e X.env) = eval e X.env := by rfl) : PE X (.Attribute e f pos) (tFld K te f) := by subst hK; exact pe_fld he hb
theorem pi_seqK (hl : PE X l tl) (hK : X.K = K := by rfl) : PI X tg l (iSeq K tl) := by subst hK; exact pi_seq hl
theorem cr_allK (hc : X.calm = true := by rfl) (hK : X.K = K := by rfl) : CallR X (.builtin "all") (rAll K) := by subst hK; exact cr_all hc
theorem cr_anyK (hc : X.calm = true := by rfl) (hK : X.K = K := by rfl) : CallR X (.builtin "any") (rAny K) := by subst hK; exact cr_any hc
theorem pt_tru (he : PE X e te) (ht : ∀ whole, isTrue e X.env whole = (do let v ← whole; standAt e.pos; holding [v] (truthy v)) := by intro _; rfl) (hK : X.K = K := by rfl) :
    PT X e (fun σ H Q => te σ H fun x H' => ∃ k, TruV K x H' k ∧ Q k H') := by subst hK; exact pt_truth he ht
end
end Dx

/-! What the top has written: an error's class, a def, a class. -/
namespace Dx
open PySem PySem.Spec PyProof.Rows L2 Evl Ex
structure XFact (K : PySem.W.Frag) (x f qual : Str) (st : Stmt) (C : Addr) : Prop where
  a : PySem.W.nsIn K mainGlobals x = some (some (.ref C))
  oc : OexC K C
  xf : XfC K C
  isc : IsC K C
  no : PySem.W.findIn K (.ref C) f = some none
  fn : ∃ f1 fd, PySem.W.findIn K (.ref C) "__init__" = some (some (.ref f1)) ∧ PySem.W.typeIn K (.ref f1) = some (.type "function") ∧ Fun K "__init__" qual st f1 fd
theorem xfact_mk {K : PySem.W.Frag} {x f qual : Str} {st : Stmt} {C f1 : Addr} {nm q : Str} {N : Addr} {bs bm : List Value} {sn : List Str} {sub : List Value} {ab : Bool} {col : Option Bool} {dd : Option Addr} {m0 m1 m2 m3 m5 : Option Value}
    {od1 an1 : Option Addr} {sl1 : Array (Option Value)} {oc1 dc1 kV1 pm1 cd1 ct1 : Value}
    (aC : PySem.W.nsIn K mainGlobals x = some (some (.ref C)))
    (xL : K.lookup C = some (excClassObj nm q C N bs bm true sn sub ab col dd m0 m1 m2 m3 m5 "ValueError.__new__")) (hbm : PySem.HandSPX.refsVE bm = true)
    (sa : PySem.W.findIn K (.ref C) "__setattr__" = some (some (.builtin "object.__setattr__"))) (ga : PySem.W.findIn K (.ref C) "__getattribute__" = some (some (.builtin "BaseException.__getattribute__"))) (gg : PySem.W.findIn K (.ref C) "__getattr__" = some none) (nb : PySem.W.findIn K (.ref C) f = some none)
    (a1 : PySem.W.findIn K (.ref C) "__init__" = some (some (.ref f1))) (t1 : PySem.W.typeIn K (.ref f1) = some (.type "function"))
    (l1 : K.lookup f1 = some ⟨oc1, od1, .func (PySem.W.fnOf "__init__" qual (defArgs st) (defBody st) (defScope st) .none kV1 dc1 pm1 an1 cd1 ct1), sl1⟩) (c1 : PySem.W.codeIn K cd1 qual = true) (k1 : PySem.W.keepIn K (.ref f1) = true)
    (kC : PySem.W.keepIn K (.ref C) = true) (eC : PySem.W.subIn K (.ref C) (.type "BaseException") = some true) (tC : PySem.W.typeIn K (.ref C) = some (.type "type")) (hC : PySem.W.hasDictIn K C = true)
    (iC : PySem.W.isClsIn K C = true) (ca : PySem.W.findIn K (.ref C) "__class__" = some (some (.builtin "object.__class__"))) (sg : PySem.W.specialIn K (.builtin "object.__class__") "__get__" = some (some (.builtin "getset_descriptor.__get__")))
    (tk : PySem.W.takesIn K (.builtin "object.__class__") = some true) (mo : PySem.W.mroIn K C (.type "object") = some true) : XFact K x f qual st C where
  a := aC
  oc := ⟨⟨nm, q, N, bs, bm, sn, sub, ab, col, dd, m0, m1, m2, m3, m5, xL, hbm⟩, sa, eC, tC, kC⟩
  xf := ⟨ga, gg, eC, hC⟩
  isc := ⟨iC, ca, sg, tk, mo⟩
  no := nb
  fn := ⟨f1, _, a1, t1, fun_mk l1 c1 k1⟩
theorem XFact.at {P : Program} {w : World} {K : PySem.W.Frag} {mg : Str → Option Value} {base h : Heap} {x f qual : Str} {st : Stmt} {C : Addr} (e : XFact K x f qual st C) (X : K.In h) (G : h.Ns mainGlobals mg)
    (ok : ∀ f1 fd, Fun K "__init__" qual st f1 fd → FnOk P w K mg base CX0 1 f1 fd ["self", f] (spInit C f)) (bnd : ∀ f1 fd, Fun K "__init__" qual st f1 fd → L2.Binds K fd ["self", f] []) : ExcAt P w K mg base x f C := by
  obtain ⟨f1, fd, h1, h2, F⟩ := e.fn
  exact ⟨e.oc, e.xf, e.isc, e.no, PySem.W.mg_of X G e.a, f1, fd, h1, h2, ok f1 fd F, bnd f1 fd F⟩
/-- a def of the module -/
structure DFact (K : PySem.W.Frag) (x : Str) (st : Stmt) (f : Addr) : Prop where
  a : PySem.W.nsIn K mainGlobals x = some (some (.ref f))
  fn : ∃ fd, Fun K x x st f fd
theorem dfact_mk {K : PySem.W.Frag} {x : Str} {st : Stmt} {f : Addr} {od1 an1 : Option Addr} {sl1 : Array (Option Value)} {oc1 dc1 kV1 pm1 cd1 ct1 : Value} (a : PySem.W.nsIn K mainGlobals x = some (some (.ref f)))
    (l1 : K.lookup f = some ⟨oc1, od1, .func (PySem.W.fnOf x x (defArgs st) (defBody st) (defScope st) .none kV1 dc1 pm1 an1 cd1 ct1), sl1⟩) (c1 : PySem.W.codeIn K cd1 x = true) (k1 : PySem.W.keepIn K (.ref f) = true) : DFact K x st f := ⟨a, _, fun_mk l1 c1 k1⟩
theorem DFact.callee {P : Program} {w : World} {K : PySem.W.Frag} {mg : Str → Option Value} {base h : Heap} {x : Str} {st : Stmt} {f : Addr} {k : Nat} {ps : List Str} {sp : Sp} (d : DFact K x st f) (X : K.In h) (G : h.Ns mainGlobals mg)
    (ok : ∀ fd, Fun K x x st f fd → FnOk P w K mg base CX0 k f fd ps sp) (b : ∀ fd, Fun K x x st f fd → L2.Binds K fd ps []) : Callee P w K mg base x k ps sp := by
  obtain ⟨fd, F⟩ := d.fn
  exact ⟨f, fd, ok fd F, PySem.W.mg_of X G d.a, F.kp, b fd F⟩
/-- a class whose instances have a dict, and its __init__ -/
structure CFact (K : PySem.W.Frag) (x qual : Str) (st : Stmt) (C : Addr) : Prop where
  a : PySem.W.nsIn K mainGlobals x = some (some (.ref C))
  made : ∃ f1 fd, Mk K C f1 ∧ Fun K "__init__" qual st f1 fd
theorem cfact_mk {K : PySem.W.Frag} {x qual : Str} {st : Stmt} {C f1 : Addr} {od1 an1 : Option Addr} {sl1 : Array (Option Value)} {oc1 dc1 kV1 pm1 cd1 ct1 : Value} (a : PySem.W.nsIn K mainGlobals x = some (some (.ref C)))
    (mk : PySem.W.makesIn K C = true) (a1 : PySem.W.findIn K (.ref C) "__init__" = some (some (.ref f1))) (i1 : PySem.W.isFn K (.ref f1) = true) (kc : PySem.W.keepIn K (.ref C) = true)
    (l1 : K.lookup f1 = some ⟨oc1, od1, .func (PySem.W.fnOf "__init__" qual (defArgs st) (defBody st) (defScope st) .none kV1 dc1 pm1 an1 cd1 ct1), sl1⟩) (c1 : PySem.W.codeIn K cd1 qual = true) (k1 : PySem.W.keepIn K (.ref f1) = true) : CFact K x qual st C :=
  ⟨a, f1, _, ⟨mk, a1, i1, kc⟩, fun_mk l1 c1 k1⟩
/-- G, the class above the errors -/
structure GFact (K : PySem.W.Frag) (x : Str) (C : Addr) : Prop where
  a : PySem.W.nsIn K mainGlobals x = some (some (.ref C))
  rd : ClX.CRead K C (.type "type")
  gi : PySem.W.findCls K (.ref C) (.type "type") "__init__" = some (.val (.builtin "ValueError.__init__"))
  eC : PySem.W.subIn K (.ref C) (.type "BaseException") = some true
  hC : PySem.W.hasDictIn K C = true
  tC : PySem.W.typeIn K (.ref C) = some (.type "type")
theorem gfact_mk {K : PySem.W.Frag} {x : Str} {C : Addr} (a : PySem.W.nsIn K mainGlobals x = some (some (.ref C))) (r1 : PySem.W.readsIn K C (.type "type") = true) (r2 : PySem.W.specialIn K (.ref C) "__getattribute__" = some (some (.builtin "type.__getattribute__")))
    (gi : PySem.W.findCls K (.ref C) (.type "type") "__init__" = some (.val (.builtin "ValueError.__init__"))) (eC : PySem.W.subIn K (.ref C) (.type "BaseException") = some true) (hC : PySem.W.hasDictIn K C = true) (tC : PySem.W.typeIn K (.ref C) = some (.type "type")) : GFact K x C := ⟨a, ⟨r1, r2⟩, gi, eC, hC, tC⟩
end Dx

/-! Which kinds come back to themselves: plain mathematics. -/
namespace Gm
/-- x is come to from k by one or more steps -/
inductive Rch (E : List (Int × Int)) (k : Int) : Int → Prop
  | one {x : Int} : (k, x) ∈ E → Rch E k x
  | more {y x : Int} : Rch E k y → (y, x) ∈ E → Rch E k x
theorem Rch.mono {E E' : List (Int × Int)} (h : ∀ p, p ∈ E → p ∈ E') {k x : Int} (r : Rch E k x) : Rch E' k x := by
  induction r with
  | one e => exact .one (h _ e)
  | more _ e ih => exact .more ih (h _ e)
def Closed (E : List (Int × Int)) (k : Int) (S : List Int) : Prop := ∀ a b, (a, b) ∈ E → (a = k ∨ a ∈ S) → b ∈ S
theorem closed_rch {E : List (Int × Int)} {k : Int} {S : List Int} (h : Closed E k S) {x : Int} (r : Rch E k x) : x ∈ S := by
  induction r with
  | one e => exact h _ _ e (.inl rfl)
  | more _ e ih => exact h _ _ e (.inr ih)
/-- at most n different ones -/
theorem len_filter (a : Int) : ∀ L : List Int, L.Nodup → L.length ≤ (L.filter fun x => x != a).length + 1
  | [], _ => Nat.zero_le _
  | b :: L, h => by
    have hb := (List.nodup_cons.mp h).1
    have hL := (List.nodup_cons.mp h).2
    by_cases e : b = a
    · subst e
      have : L.filter (fun x => x != b) = L := List.filter_eq_self.mpr fun x hx => by
        have : x ≠ b := fun z => hb (z ▸ hx)
        simpa using this
      rw [List.filter_cons]
      simp [this]
    · have ih := len_filter a L hL
      have e' : (b != a) = true := by simpa using e
      rw [List.filter_cons, if_pos e', List.length_cons, List.length_cons]
      omega
theorem pig : ∀ (n : Nat) (L : List Int), L.Nodup → (∀ x ∈ L, 0 ≤ x ∧ x < (n : Int)) → L.length ≤ n
  | 0, L, _, h => by
    cases L with
    | nil => exact Nat.le_refl _
    | cons x L =>
      have := h x List.mem_cons_self
      omega
  | n + 1, L, hn, h => by
    have h1 := len_filter (n : Int) L hn
    have h2 := pig n (L.filter fun x => x != (n : Int)) (hn.filter _) fun x hx => by
      obtain ⟨hm, hx⟩ := List.mem_filter.mp hx
      have h3 := h x hm
      have h4 : x ≠ (n : Int) := by simpa using hx
      omega
    omega
/-- the law's turn -/
def turn (E : List (Int × Int)) (k : Int) (S : List Int) : List Int := S ++ (E.filter fun p => (p.1 == k || S.contains p.1) && !S.contains p.2).map (·.2)
def turns (E : List (Int × Int)) (k : Int) : Nat → List Int
  | 0 => []
  | t + 1 => turn E k (turns E k t)
theorem mem_turn {E : List (Int × Int)} {k : Int} {S : List Int} {x : Int} : x ∈ turn E k S ↔ x ∈ S ∨ ∃ a, (a, x) ∈ E ∧ (a = k ∨ a ∈ S) := by
  unfold turn
  rw [List.mem_append, List.mem_map]
  constructor
  · rintro (h | ⟨⟨a, b⟩, hm, rfl⟩)
    · exact .inl h
    · obtain ⟨hE, hc⟩ := List.mem_filter.mp hm
      simp only [Bool.and_eq_true, Bool.or_eq_true, beq_iff_eq, List.contains_iff_mem] at hc
      exact .inr ⟨a, hE, hc.1⟩
  · rintro (h | ⟨a, hE, hc⟩)
    · exact .inl h
    · by_cases hx : x ∈ S
      · exact .inl hx
      · refine .inr ⟨(a, x), List.mem_filter.mpr ⟨hE, ?_⟩, rfl⟩
        simp only [Bool.and_eq_true, Bool.or_eq_true, beq_iff_eq, List.contains_iff_mem, Bool.not_eq_true', Bool.eq_false_iff, ne_eq]
        exact ⟨hc, hx⟩
theorem turns_sound {E : List (Int × Int)} {k : Int} : ∀ (t : Nat) (x : Int), x ∈ turns E k t → Rch E k x
  | 0, x, h => by cases h
  | t + 1, x, h => by
    rcases mem_turn.mp h with h | ⟨a, hE, rfl | ha⟩
    · exact turns_sound t x h
    · exact .one hE
    · exact .more (turns_sound t a ha) hE
theorem turns_many {E : List (Int × Int)} {k : Int} : ∀ t : Nat, (∃ s, s ≤ t ∧ Closed E k (turns E k s)) ∨ ∃ L : List Int, L.Nodup ∧ L.length = t ∧ ∀ x ∈ L, x ∈ turns E k t
  | 0 => .inr ⟨[], List.nodup_nil, rfl, fun _ h => nomatch h⟩
  | t + 1 => by
    rcases turns_many (E := E) (k := k) t with ⟨s, hs, hc⟩ | ⟨L, h1, h2, h3⟩
    · exact .inl ⟨s, by omega, hc⟩
    · by_cases hc : Closed E k (turns E k t)
      · exact .inl ⟨t, by omega, hc⟩
      · have : ∃ a b, (a, b) ∈ E ∧ (a = k ∨ a ∈ turns E k t) ∧ b ∉ turns E k t := by
          apply Classical.byContradiction
          intro hno
          refine hc fun a b hE ha => ?_
          apply Classical.byContradiction
          intro hb
          exact hno ⟨a, b, hE, ha, hb⟩
        obtain ⟨a, b, hE, ha, hb⟩ := this
        refine .inr ⟨b :: L, List.nodup_cons.mpr ⟨fun hm => hb (h3 b hm), h1⟩, by rw [List.length_cons, h2], fun x hx => ?_⟩
        rcases List.mem_cons.mp hx with rfl | hx
        · exact mem_turn.mpr (.inr ⟨a, hE, ha⟩)
        · exact mem_turn.mpr (.inl (h3 x hx))
theorem closed_turn {E : List (Int × Int)} {k : Int} {S : List Int} (h : Closed E k S) : Closed E k (turn E k S) := fun a b hE ha => by
  refine mem_turn.mpr ?_
  rcases ha with ha | ha
  · exact .inl (h a b hE (.inl ha))
  · rcases mem_turn.mp ha with h1 | ⟨c, hc, h1⟩
    · exact .inl (h a b hE (.inr h1))
    · exact .inl (h a b hE (.inr (h c a hc h1)))
theorem closed_later {E : List (Int × Int)} {k : Int} {s : Nat} (h : Closed E k (turns E k s)) : ∀ d : Nat, Closed E k (turns E k (s + d))
  | 0 => h
  | d + 1 => closed_turn (closed_later h d)
/-- behind n + 1 turns, the kinds below n, just what is come to is found -/
theorem turns_all {E : List (Int × Int)} {k : Int} {n : Nat} (hE : ∀ a b, (a, b) ∈ E → 0 ≤ b ∧ b < (n : Int)) (x : Int) : x ∈ turns E k (n + 1) ↔ Rch E k x := by
  refine ⟨turns_sound _ _, fun r => ?_⟩
  rcases turns_many (E := E) (k := k) (n + 1) with ⟨s, hs, hc⟩ | ⟨L, h1, h2, h3⟩
  · have := closed_later hc (n + 1 - s)
    rw [show s + (n + 1 - s) = n + 1 by omega] at this
    exact closed_rch this r
  · have := pig n L h1 fun y hy => by
      have hr := turns_sound _ _ (h3 y hy)
      cases hr with
      | one e => exact hE _ _ e
      | more _ e => exact hE _ _ e
    omega
theorem turn_len (E : List (Int × Int)) (k : Int) (S : List Int) : (turn E k S).length ≤ S.length + E.length := by
  unfold turn
  rw [List.length_append, List.length_map]
  have := List.length_filter_le (fun p : Int × Int => (p.1 == k || S.contains p.1) && !S.contains p.2) E
  omega
theorem turns_len (E : List (Int × Int)) (k : Int) : ∀ t, (turns E k t).length ≤ t * E.length
  | 0 => Nat.zero_le _
  | t + 1 => by
    have h1 := turn_len E k (turns E k t)
    have h2 := turns_len E k t
    show (turn E k (turns E k t)).length ≤ _
    rw [Nat.add_mul, Nat.one_mul]
    omega
/-- the first kind that comes back to itself, if there is one -/
inductive BK (E : List (Int × Int)) (n : Int) : Option Int → Prop
  | some (k : Int) : 0 ≤ k → k < n → Rch E k k → (∀ j, 0 ≤ j → j < k → ¬ Rch E j j) → BK E n (some k)
  | none : (∀ j, 0 ≤ j → j < n → ¬ Rch E j j) → BK E n none
theorem BK.uniq {E : List (Int × Int)} {n : Int} {a b : Option Int} (h : BK E n a) (g : BK E n b) : a = b := by
  cases h with
  | some k h0 h1 h2 h3 =>
    cases g with
    | some j g0 g1 g2 g3 =>
      rcases Int.lt_trichotomy k j with h | h | h
      · exact absurd h2 (g3 k h0 h)
      · rw [h]
      · exact absurd g2 (h3 j g0 h)
    | none g => exact absurd h2 (g k h0 h1)
  | none h =>
    cases g with
    | some j g0 g1 g2 g3 => exact absurd g2 (h j g0 g1)
    | none g => rfl
theorem BK.ext {E E' : List (Int × Int)} {n : Int} {a : Option Int} (e : ∀ p, p ∈ E ↔ p ∈ E') (h : BK E n a) : BK E' n a := by
  have r : ∀ j x, Rch E j x ↔ Rch E' j x := fun j x => ⟨Rch.mono fun p => (e p).mp, Rch.mono fun p => (e p).mpr⟩
  cases h with
  | some k h0 h1 h2 h3 => exact .some k h0 h1 ((r k k).mp h2) fun j a b c => h3 j a b ((r j j).mpr c)
  | none h => exact .none fun j a b c => h j a b ((r j j).mpr c)
end Gm

/-! Shared by the laws: what is an integer; several except clauses with a name; an own ==. -/
namespace Dx
open PySem PySem.Spec PyProof.Rows L2 Evl Ex
structure TB (mg : Str → Option Value) : Prop where
  m_len : mg "len" = none
  m_abs : mg "abs" = none
  m_int : mg "int" = none
  m_str : mg "str" = none
  m_bool : mg "bool" = none
  m_tuple : mg "tuple" = none
  m_list : mg "list" = none
  m_all : mg "all" = none
  m_isinstance : mg "isinstance" = none
  m_range : mg "range" = none
/-! ### what is an integer -/
def isI : PyData → Bool
  | .int _ => true
  | _ => false
def fInt : List PyData → PyData
  | [d] => .bool (isI d)
  | _ => .none
def inB (d : PyData) (lo hi : Int) : Bool := match d with
  | .int i => decide (lo ≤ i) && decide (i ≤ hi)
  | _ => false
def fBetween : List PyData → PyData
  | [d, .int lo, .int hi] => .bool (inB d lo hi)
  | _ => .none
def pre1 (ds : List PyData) : Prop := ∃ d, ds = [d]
def preB (ds : List PyData) : Prop := ∃ d lo hi, ds = [d, .int lo, .int hi]
abbrev spInt (K : PySem.W.Frag) : Sp := spF K pre1 fInt
abbrev spBetween (K : PySem.W.Frag) : Sp := spF K preB fBetween
theorem arg1 {K : PySem.W.Frag} {B : Hp} {vs : List V} {d : PyData} (h : DdAll K B vs [d]) : ∃ v, vs = [v] ∧ Dd K B v d := by
  cases h with
  | cons h1 t =>
    cases t
    exact ⟨_, rfl, h1⟩
theorem arg2 {K : PySem.W.Frag} {B : Hp} {vs : List V} {d e : PyData} (h : DdAll K B vs [d, e]) : ∃ v u, vs = [v, u] ∧ Dd K B v d ∧ Dd K B u e := by
  cases h with
  | cons h1 t =>
    obtain ⟨u, rfl, h2⟩ := arg1 t
    exact ⟨_, u, rfl, h1, h2⟩
theorem arg3 {K : PySem.W.Frag} {B : Hp} {vs : List V} {d e c : PyData} (h : DdAll K B vs [d, e, c]) : ∃ v u y, vs = [v, u, y] ∧ Dd K B v d ∧ Dd K B u e ∧ Dd K B y c := by
  cases h with
  | cons h1 t =>
    obtain ⟨u, y, rfl, h2, h3⟩ := arg2 t
    exact ⟨_, u, y, rfl, h1, h2, h3⟩

/-! ### try: .. except X as n: .. except Y as n: .. -/
abbrev Clause := Value × (Addr → Value → Option Addr → TS)
/-- the ends of a suite behind which the name is gone -/
def goneE (i : Nat) (D : Ends) : Ends := { nx := fun σ' H' => D.nx (σ'.set i none) H', rt := D.rt, bk := fun σ' H' => D.bk (σ'.set i none) H', ct := fun σ' H' => D.ct (σ'.set i none) H' }
def wNames (K : PySem.W.Frag) (i : Nat) (Wout : WX) (D : Ends) : List Clause → WX
  | [] => Wout
  | (c, ts) :: r => fun cls d σ H => ∃ b, PySem.W.exmOne K cls c = some b ∧ (b = true → ∀ a, H a = none → ts a cls d (goneE i D) (σ.set i (some (.ref a))) H) ∧ (b = false → wNames K i Wout D r cls d σ H)
inductive ClsOk (X : Cx) (n : Str) : List ExceptHandler → List Clause → Prop
  | nil : ClsOk X n [] []
  | cons {x : Str} {c : Value} {ts : Addr → Value → Option Addr → TS} {b₀ : Stmt} {suite : List Stmt} {np pos' : Pos} {hds : List ExceptHandler} {l : List Clause} (hc : Names X x c)
      (hsu : ∀ (a : Addr) (oe : Obj) (cls : Value) (d : Option Addr) (pn : List (Addr × Obj)), Zc cls d oe → (∃ vs, oe.data = .fields vs) → PSs (X.suite a ((a, oe) :: pn)) (b₀ :: suite) (ts a cls d)) (r : ClsOk X n hds l) :
      ClsOk X n (.ExceptHandler (some (.Name x np)) (some n) (b₀ :: suite) pos' :: hds) ((c, ts) :: l)
section
variable {X : Cx} {n : Str} {i : Nat} {body : List Stmt} {h₀ : ExceptHandler} {hds : List ExceptHandler} {l : List Clause} {pos : Pos} {tb : WX → TS} {Wout : WX}
theorem ps_try_names (hs : X.stack = X.env :: X.outer) (hf : X.env.frame = some X.env.locals) (hN : X.N.Nodup) (hi : X.N[i]? = some n) (hln : X.env.kindOf n = some .local) (tk : Takes X Wout)
    (hb : ∀ (W : WX) (pn : List (Addr × Obj)) (xe : Value → Shared → Prop), Takes (X.tr pn xe) W → PassesOwn (model X.prog X.w) X.A X.env xe → PSs (X.tr pn xe) body (tb W))
    (hh : ClsOk X n (h₀ :: hds) l) : PS X (.Try body (h₀ :: hds) [] [] pos) (fun D σ H => tb (wNames X.K i Wout D l) D σ H) := by
  refine ⟨fun pins s σ H D I h => ?_⟩
  have ok := I.ok
  have hfr : X.A.frames = some (X.env :: X.outer) := by rw [ok.frames, hs]
  have hloc : Loc X.env.scope n := .inl hln
  refine wpAny_Try_except ?_
  refine wpAny_mono ((hb (wNames X.K i Wout D l) (X.pn ++ pins) (fun e s₁ => wpAny (model X.prog X.w) X.A (noteFrame e X.env) (fun _ s₂ => wpAny (model X.prog X.w) X.A (setFlight e none) (fun _ s₃ =>
    wpAny (model X.prog X.w) X.A (handleBy e X.env (h₀ :: hds)) (SP X pins D) X.xe s₃) X.xe s₂) X.xe s₁) (fun u s' xx => ?_) PassesOwn.looking).run [] s σ H D (I.toTry _) h) (fun f s1 hsp => ?_) (fun e s1 he => he)
  · obtain ⟨a, B, sI, pins', σ', H', cls, d, rfl, J', nb, up, sky, na, os, ag, w⟩ := xx
    have J : Inv X pins σ' H' sI := J'.ofTry ok
    have sky' : Sky B (X.env :: X.outer) a (Zc cls d) X.env.locals s'.heap := by rw [← hs]; exact sky
    show wpAny (model X.prog X.w) X.A (noteFrame (.ref a) X.env) _ _ _
    refine Sky.land Zc.steady hfr hf sky' fun h3 fl3 up3 => ?_
    have J3 : Inv X pins σ' H' { s' with heap := h3 } := J.landed nb fl3.1 (up.trans up3) os ag
    obtain ⟨oe3, vs3, he3, hz3, hd3⟩ := fl3.there
    have nfr : a ∉ frs (X.env :: X.outer) := fun hm => by
      obtain ⟨_, o', e', hnf⟩ := fl3.2.2.1.mem hm
      have z : some oe3 = some o' := he3.symm.trans e'
      cases z
      exact hnf _ hd3
    have nL : a ≠ X.env.locals := fun z => nfr (List.mem_filterMap.mpr ⟨X.env, List.mem_cons_self, by rw [hf, z]⟩)
    have nF : a ∉ X.fs := fun hm => by
      obtain ⟨e, he, q⟩ := List.mem_filterMap.mp hm
      exact nfr (List.mem_filterMap.mpr ⟨e, List.mem_cons_of_mem _ he, q⟩)
    have S3 := J3.suite he3 hd3 na nL nF
    have go : ∀ {hds' : List ExceptHandler} {l' : List Clause}, ClsOk X n hds' l' → wNames X.K i Wout D l' cls d σ' H' →
        wpAny (model X.prog X.w) X.A (handleBy (.ref a) X.env hds') (SP X pins D) X.xe { s' with heap := h3 } := by
      intro hds' l' hk
      induction hk with
      | nil =>
        intro w
        refine wpAny_handleBy_nil ?_
        obtain ⟨k1, k2, k3, oe, vs, T, oT, ts', he, hz, hd, h1, hr⟩ := id fl3
        unfold PySem.passOn
        refine wpAny_bind (wpAny_field he hd h1 ?_)
        rw [if_neg (show ¬ ((Value.ref T == Value.none) = true) from by simp)]
        have fin : wpAny (model X.prog X.w) X.A (setFlight (.ref a) X.env.frame) (fun _ s4 => wpAny (model X.prog X.w) X.A (throw (.ref a) : Sem Flow) (SP X pins D) X.xe s4) X.xe { s' with heap := h3 } := by
          rw [hf]
          refine HandSPX.setFlight_upZ fl3 fun h4 hh4 up4 => wpAny_throw (tk _ _ ?_)
          exact ⟨a, B, sI, pins, σ', H', cls, d, rfl, J, nb, (up.trans up3).trans up4, .inr (.inr (by rw [hs]; exact hh4)), na, os, ag, w⟩
        first
          | exact wpAny_bind (wpAny_pure (wpAny_bind fin))
          | exact wpAny_bind fin
      | @cons x c ts b₀ suite np pos' hds2 l2 hc hsu r ih =>
        intro w
        obtain ⟨b, hb1, hyes, hno⟩ := w
        refine wpAny_handleBy_cons (codeAny_handlers_test ?_) (by intro q; cases q)
        have LT : PySem.W.Looks (model X.prog X.w) h3 (typeOf (.ref a)) cls := fun A Q E s k q => wpAny_typeOf_ref (k _ _ he3) (by rw [hz3.1]; exact q)
        have LM := PySem.W.exm_one (M := model X.prog X.w) (J3.kIn) LT hb1
        have test : ∀ {Q : Value → Shared → Prop} {E : Value → Shared → Prop}, Q c { s' with heap := h3 } → wpAny (model X.prog X.w) (X.A.mark (some (.ref a))) (eval (.Name x np) X.env) Q E { s' with heap := h3 } := fun {Q E} q => by
          obtain ⟨hg, hdbg, hm | ⟨hm, hv, hnn⟩⟩ := hc
          · exact ld_glob (X := X.suite a ((a, oe3) :: (X.pn ++ pins))) S3 hg hm q hdbg
          · exact ld_blt (X := X.suite a ((a, oe3) :: (X.pn ++ pins))) S3 hg hm hv q hnn hdbg
        refine test (LM.here ?_)
        cases b with
        | true =>
          refine codeAny_handlers_suite_as ?_
          refine HandSPX.lands_againZ fl3 fun h4 fl4 up4 => ?_
          have J4 : Inv X pins σ' H' { s' with heap := h4 } := J.landed nb fl4.1 ((up.trans up3).trans up4) os ag
          obtain ⟨oe4, vs4, he4, hz4, hd4⟩ := fl4.there
          have S4 := J4.suite he4 hd4 na nL nF
          refine store_ok (X := X.suite a ((a, oe4) :: (X.pn ++ pins))) (v := .ref a) S4 hN hi hloc rfl (fun s5 S5 => ?_) (.inr hln)
          refine wpAny_mono ((hsu a oe4 cls d (X.pn ++ pins) hz4 ⟨_, hd4⟩).run [] s5 _ H' _ S5 (hyes rfl a na)) (fun f s6 hsp => ?_) (fun _ _ z => False.elim z)
          have end_ : ∀ {σ6 : L2.St} {H6 : Hp} {Q : Shared → Prop}, Inv (X.suite a ((a, oe4) :: (X.pn ++ pins))) [] σ6 H6 s6 → (∀ s7, Inv X pins (σ6.set i none) H6 s7 → Q s7) →
              wpAny (model X.prog X.w) X.A (do bindName X.env n .none; unbindBehindTheSuite X.env n pos') (fun _ s7 => Q s7) X.xe s6 := fun {σ6 H6 Q} S6 hq => gone_ok (S6.unsuite ok) hN hi hln hq
          cases f with
          | next =>
            obtain ⟨σ6, H6, S6, q6⟩ := hsp
            exact end_ S6 fun s7 J7 => ⟨_, _, J7, q6⟩
          | brk =>
            obtain ⟨σ6, H6, S6, q6⟩ := hsp
            exact end_ S6 fun s7 J7 => ⟨_, _, J7, q6⟩
          | cont =>
            obtain ⟨σ6, H6, S6, q6⟩ := hsp
            exact end_ S6 fun s7 J7 => ⟨_, _, J7, q6⟩
          | ret u =>
            obtain ⟨v6, σ6, H6, S6, r6, q6⟩ := hsp
            exact end_ S6 fun s7 J7 => ⟨_, _, _, J7, r6, q6⟩
        | false =>
          show wpAny _ X.A (handleBy (.ref a) X.env hds2) _ _ _
          exact ih (hno rfl)
    exact go hh w
  · cases f with
    | next =>
      obtain ⟨σ', H', J', q⟩ := hsp
      exact wpAny_execs_nil ⟨σ', H', J'.ofTry ok, q⟩
    | brk =>
      obtain ⟨σ', H', J', q⟩ := hsp
      exact ⟨σ', H', J'.ofTry ok, q⟩
    | cont =>
      obtain ⟨σ', H', J', q⟩ := hsp
      exact ⟨σ', H', J'.ofTry ok, q⟩
    | ret u =>
      obtain ⟨v, σ', H', J', r, q⟩ := hsp
      exact ⟨v, σ', H', J'.ofTry ok, r, q⟩
end

/-! ### x == y, x an instance with an own __eq__ -/
section
variable {X : Cx} {CX : CXT} {C f : Addr} {fd : FuncData} {ps : List Str} {sp : Sp} {E : XK} {k : Nat}
/-- y an instance of the same class | a tuple -/
def rOwnEq (K : PySem.W.Frag) (C : Addr) (sp : Sp) (E : XK) : R2 := fun x y H Q => ∃ a dx fs, x = .ref a ∧ H a = some (.ins C dx fs) ∧ ((∃ b dy gs, y = .ref b ∧ H b = some (.ins C dy gs)) ∨ ∃ b xs, y = .ref b ∧ SqT K H b xs) ∧ sp [x, y] H (fun v H' => (∃ r, v = .bl r) ∧ Q v H') E
theorem op_ownEq (F : FnOk X.prog X.w X.K X.mg X.base CX k f fd ps sp) (hr : Room k X.A) (hs : PySem.W.findIn X.K (.ref C) "__eq__" = some (some (.ref f))) (hf : PySem.W.isFn X.K (.ref f) = true) (hb : L2.Binds X.K fd ps []) (nf : PySem.W.notFirst X.K C (.type "tuple") = true) (hx : Passes CX X E) :
    OpR X (compareOp .Eq) (rOwnEq X.K C sp E) := by
  intro pins s σ H x y v u Q I rx ry hq
  obtain ⟨a, dx, fs, rfl, ha, hy, hsp⟩ := hq
  cases rx
  show wpAny (model X.prog X.w) X.A (richCompare .Eq (.ref a) u) (EP X pins σ Q) X.xe s
  obtain ⟨mA, J, _⟩ := ins_get I.hok ha
  obtain ⟨od, J, _⟩ := J.look
  obtain ⟨m, hF⟩ := I.fr
  have run : wpAny (model X.prog X.w) X.A (call (.ref f) [.ref a, u]) (PySem.W.CmpBack (EP X pins σ Q)) X.xe s := by
    have r2 : Vals [V.ref a, y] [Value.ref a, u] := .cons rfl (.cons ry .nil)
    refine wpAny_mono (run_fn (us := [.ref a, u]) (vs := [.ref a, y]) (dvs := []) (ds := []) F hr hb .nil hx I r2 (by rw [List.append_nil]; exact hsp)) (fun w s' h => ?_) fun _ _ z => z
    obtain ⟨z, H', I', rz, ⟨r, er⟩, q⟩ := h
    subst er
    cases rz
    show EP X pins σ Q (.bool r) s'
    exact ⟨.bl r, H', I', rfl, q⟩
  rcases hy with ⟨b, dy, gs, rfl, hb'⟩ | ⟨b, xs, rfl, hb'⟩
  · cases ry
    obtain ⟨mB, J', _⟩ := ins_get I.hok hb'
    obtain ⟨od', J', _⟩ := J'.look
    exact PySem.W.cmp_K (op := .Eq) (tb := .ref C) hr.units0 hF I.ok.mod.kin J J'.type (by simp [PySem.W.notFirst]) hs hf run
  · cases ry
    obtain ⟨its, rv, ⟨o, ho, hc, _⟩, _⟩ := I.tuple hb'
    exact PySem.W.cmp_K (op := .Eq) (tb := .type "tuple") hr.units0 hF I.ok.mod.kin J (fun A Q E s k q => wpAny_typeOf_ref (k _ _ ho) (by rw [hc]; exact q)) nf hs hf run
end
end Dx

/-! More rules: t[::-1] of a tuple, slices, in, a text walked, insert. -/
namespace Dx
open PySem PySem.Spec PyProof.Rows L2 Evl Ex
/-! ### t[::-1] -/
section
variable {prog : Program} {w : World} {A : Around} {E : Value → Shared → Prop} {s : Shared}
theorem adjust_rev (n : Nat) : Builtin.Slice.sliceAdjust none none (-1) (n : Int) = ((n : Int) - 1, -1) := by
  have h1 : ((-1 : Int) < 0) := by decide
  unfold Builtin.Slice.sliceAdjust
  simp only [h1, if_true]
theorem places_rev (n : Nat) : Builtin.Slice.slicePlaces ((n : Int) - 1) (-1) (-1) = n := by
  unfold Builtin.Slice.slicePlaces
  have h1 : ¬ ((-1 : Int) > 0) := by decide
  have h2 : ((n : Int) - 1 - -1 - 1) / (- -1) = (n : Int) - 1 := by
    rw [show (- -1 : Int) = 1 by decide, Int.ediv_one]
    omega
  simp only [h1, if_false, h2]
  split <;> omega
theorem fm_congr {α β : Type} {f g : α → Option β} : ∀ {l : List α}, (∀ x ∈ l, f x = g x) → l.filterMap f = l.filterMap g
  | [], _ => rfl
  | a :: l, h => by
    rw [List.filterMap_cons, List.filterMap_cons, h a List.mem_cons_self, fm_congr fun x hx => h x (List.mem_cons_of_mem _ hx)]
theorem pick_rev (xs : Array Value) : ((List.range xs.size).filterMap fun (m : Nat) => xs[(((xs.size : Nat) : Int) - 1 + (m : Int) * (-1)).toNat]?).toArray = xs.toList.reverse.toArray := by
  congr 1
  rw [← PySem.W.krv_all xs, ← List.filterMap_reverse, ← PySem.W.krv_range, List.filterMap_map]
  refine fm_congr fun m hm => ?_
  have := List.mem_range.mp hm
  show xs[(((xs.size : Nat) : Int) - 1 + (m : Int) * (-1)).toNat]? = xs[xs.size - 1 - m]?
  congr 1
  omega
theorem getItem_tuple_rev {t sl : Addr} {items : Array Value} {vs : Value} {Q : Value → Shared → Prop} (ht : IsTup s.heap t items) (hs : s.heap.IsSliceOf sl .none .none vs) (ps : IsPart vs (some (-1)))
    (h : Q (.ref s.heap.objs.size) { s with heap := s.heap.push { cls := .type "tuple", data := .seq items.toList.reverse.toArray } })
    (hsz : items.size ≤ sizeLine) : wpAny (model prog w) A (getItem (.ref t) (.ref sl)) Q E s := by
  have htake : sizeOk (.seq items.toList.reverse.toArray) := by
    show items.toList.reverse.toArray.size ≤ sizeLine
    rw [List.size_toArray, List.length_reverse, Array.length_toList]
    exact hsz
  obtain ⟨os, hos, hcs, hds⟩ := id hs
  have hTs : s.TypeIs (.ref sl) "slice" := ⟨os, hos, hcs⟩
  unfold getItem
  try with_reducible refine wpAny_holding ?_
  first | refine wpAny_bind (wpAny_pure ?_) | skip
  refine wpAny_bind (wpAny_sequenceKey ht.typeIs (by decide) ?_)
  refine wpAny_bind (wpAny_callSpecial?_slot (name := Str.ofString "__getitem__") ht.typeIs PyProof.Rows.slot_tuple_getitem
    (wpAny_call_entry PyProof.Rows.slot_tuple_getitem ht.typeIs entry_tuple_getitem ?_ (args_tuple_getitem _ _)))
  show wpAny _ _ (Builtin.Tuple.tupleItemsOf (.ref t) >>= _) _ _ s
  refine wpAny_bind (tupleItemsOf_ ht ?_)
  refine wpAny_bind (wpAny_typeOf hTs ?_)
  rw [if_pos (by decide)]
  have app : ∀ {R : Int × Int × Nat → Shared → Prop} {A' : Around} {E' : Value → Shared → Prop}, R (((items.size : Nat) : Int) - 1, -1, items.size) s → wpAny (model prog w) A' (Builtin.Slice.sliceApplied (.ref sl) (pure ((items.size : Nat) : Int))) R E' s := by
    intro R A' E' hR
    unfold Builtin.Slice.sliceApplied Builtin.Slice.sliceFields
    refine wpAny_bind (wpAny_bind (wpAny_field hos hds (x := .none) rfl (wpAny_bind (wpAny_field hos hds (x := .none) rfl (wpAny_bind (wpAny_field hos hds (x := vs) rfl (wpAny_pure ?_)))))))
    refine wpAny_bind (HT.slicePart_ ps ?_)
    show wpAny _ _ (if ((-1 : Int) == 0) = true then _ else _) _ _ s
    rw [if_neg (by decide)]
    refine wpAny_bind (slicePart_none (wpAny_bind (slicePart_none (wpAny_bind (wpAny_pure ?_)))))
    show wpAny _ _ (match Builtin.Slice.sliceAdjust none none (-1) ((items.size : Nat) : Int) with | (lo, hi) => pure (lo, (-1 : Int), Builtin.Slice.slicePlaces lo hi (-1))) _ _ s
    rw [adjust_rev]
    show wpAny _ _ (pure (((items.size : Nat) : Int) - 1, (-1 : Int), Builtin.Slice.slicePlaces (((items.size : Nat) : Int) - 1) (-1) (-1))) _ _ s
    rw [places_rev]
    exact wpAny_pure hR
  refine wpAny_bind (app ?_)
  have hno : ¬ ((((items.size : Nat) : Int) - 1 == 0 && (-1 : Int) == 1 && items.size == items.size) = true) := by
    intro q
    rw [Bool.and_eq_true, Bool.and_eq_true] at q
    exact absurd q.1.2 (by decide)
  show wpAny _ _ (if (((items.size : Nat) : Int) - 1 == 0 && (-1 : Int) == 1 && items.size == items.size) = true then _ else _) _ _ s
  rw [if_neg hno, pick_rev]
  first
    | exact wpAny_bind (m := Builtin.Tuple.tupleExact _) (wpAny_newObj_type (wpAny_pure ⟨_, rfl, wpAny_pure h⟩) htake)
    | exact wpAny_bind (m := Builtin.Tuple.tupleExact _) (wpAny_newObj_type (wpAny_bind (wpAny_pure (wpAny_pure ⟨_, rfl, wpAny_pure h⟩))) htake)
    | exact wpAny_bind (wpAny_bind (m := Builtin.Tuple.tupleExact _) (wpAny_newObj_type (wpAny_pure (wpAny_pure ⟨_, rfl, wpAny_pure h⟩)) htake))
    | exact wpAny_bind (wpAny_bind (m := Builtin.Tuple.tupleExact _) (wpAny_newObj_type (wpAny_pure ⟨_, rfl, wpAny_pure h⟩) htake))
end
section
variable {X : Cx}
def tRevT (K : PySem.W.Frag) (te : TE) : TE := fun σ H Q => te σ H fun x H1 => ∃ a xs, x = .ref a ∧ SqT K H1 a xs ∧ ∀ p, H1 p = none → Q (.ref p) (upd H1 p (.tup xs.reverse))
theorem pe_revT {e : Expr} {te : TE} {k : Nat} {p1 p2 p3 pos : Pos} (he : PE X e te) : PE X (.Subscript e (.Slice none none (some (.UnaryOp .USub (.Constant (.int 1) k p1) p2)) p3) pos) (tRevT X.K te) := by
  refine ⟨fun pins s σ H Q I h => ?_⟩
  refine Subscript_ (thn (he.run pins s σ H _ I h) fun v s1 ⟨x, H1, I1, r1, q1⟩ => ?_)
  obtain ⟨a, xs, ex, hx, q⟩ := q1
  subst ex
  cases r1
  have hst : PO X (some (.UnaryOp .USub (.Constant (.int 1) k p1) p2)) (tPart (tUn (rU fun i => .int (-i)) (tC (.int 1)))) := po_some (pe_un un_neg pe_int)
  refine wpAny_Slice (thn (po_none.run pins s1 σ H1 (fun o H2 => o = none ∧ H2 = H1) I1 ⟨rfl, rfl⟩) fun vl s2 ⟨l, H2, I2, pl, el, e2⟩ => ?_)
  subst el e2
  refine thn (po_none.run pins s2 σ H2 (fun o H3 => o = none ∧ H3 = H2) I2 ⟨rfl, rfl⟩) fun vu s3 ⟨u, H3, I3, pu, eu, e3⟩ => ?_
  subst eu e3
  refine thn (hst.run pins s3 σ H3 (fun o H4 => o = some (-1) ∧ H4 = H3) I3 ⟨1, rfl, -1, rfl, rfl, rfl⟩) fun vs s4 ⟨o, H4, I4, ps, eo, e4⟩ => ?_
  subst eo e4
  have I5 : Inv X pins σ H4 { s4 with heap := s4.heap.push { cls := .type "slice", data := .fields #[vl, vu, vs] } } := I4.kept (t' := s4.toks) fun b ob q => Heap.get?_push_of_some _ q
  obtain ⟨its, r, ht, hz⟩ := I5.tuple hx
  have hlen := r.length
  cases pl
  cases pu
  show wpAny (model X.prog X.w) X.A (subscriptTail e (.Slice none none (some (.UnaryOp .USub (.Constant (.int 1) k p1) p2)) p3) (.ref a) (.ref s4.heap.objs.size)) (EP X pins σ Q) X.xe { s4 with heap := s4.heap.push { cls := .type "slice", data := .fields #[.none, .none, vs] } }
  refine tail_any (ops := [.ref a, .ref s4.heap.objs.size]) ht.typeIs (PyProof.Rows.slot_tuple_getitem.lookup) ?_ (by with_unfolding_all rfl)
  refine getItem_tuple_rev ht (Heap.IsSliceOf.new _ .none .none vs) ps ?_ (by rw [List.size_toArray]; omega)
  refine ⟨.ref _, _, I5.laid (t' := s4.toks) (o := .tup xs.reverse) (fun b ob q => Heap.get?_push_of_some _ q) (Nat.le_refl _) ?_, rfl, q _ (I5.hok.fresh (Nat.le_refl _))⟩
  exact ⟨by rw [List.length_reverse]; exact hz, _, r.reverse, _, Heap.get?_push_size _ rfl, rfl, 0, rfl⟩
theorem pe_revTK (K : PySem.W.Frag) {e : Expr} {te : TE} {k : Nat} {p1 p2 p3 pos : Pos} (he : PE X e te) (hK : X.K = K := by rfl) : PE X (.Subscript e (.Slice none none (some (.UnaryOp .USub (.Constant (.int 1) k p1) p2)) p3) pos) (tRevT K te) := by subst hK; exact pe_revT he
end

/-! ### slices x[i:j] of tuples and texts -/
section
variable {X : Cx}
def rSlX (K : PySem.W.Frag) : V → Option Int → Option Int → Hp → VK → Prop := fun x lo hi H Q => rSlA K x lo hi H Q ∨ rSlS x lo hi H Q
theorem sl_anyK (K : PySem.W.Frag) (hK : X.K = K := by rfl) : SlR X (rSlX K) := by subst hK; exact sl_tupA.or sl_str
end
def EO (F : Fm) (to : TO) (σ : L2.St) (B : Hp) (o : Option Int) : Prop := ∀ B1, Ex B B1 → ∀ H, Ok F B1 H → ∀ Q : Option Int → Hp → Prop, (∀ B' H', Step F.M B1 H B' H' → Ok F B' H' → Q o H') → to σ H Q
def cutL {α : Type} (xs : List α) (lo hi : Option Int) : List α := (xs.drop (HT.sIx xs.length 0 lo)).take (HT.sIx xs.length xs.length hi - HT.sIx xs.length 0 lo)
section
variable {F : Fm} {K : PySem.W.Frag} {σ : L2.St} {B : Hp} {te : TE} {tl th : TO} {lo hi : Option Int} {ds : List PyData} {x y z d : PyData}
theorem eo_none : EO F tNoPart σ B none := fun B1 e0 H k Q q => q B1 H (Step.refl k.e) k
theorem eo_some {i : Int} (h : ED F K te σ B (.int i)) : EO F (tPart te) σ B (some i) := fun B1 e0 H k Q q => h B1 e0 H k _ fun v B2 H2 s2 k2 g => ⟨i, dd_int g, q B2 H2 s2 k2⟩
theorem cutL_len {α : Type} (xs : List α) (lo hi : Option Int) : (cutL xs lo hi).length ≤ xs.length := by
  unfold cutL
  rw [List.length_take, List.length_drop]
  omega
theorem ed_slT (h : ED F K te σ B (.tuple ds)) (hl : EO F tl σ B lo) (hh : EO F th σ B hi) : ED F K (tSl (rSlX K) te tl th) σ B (.tuple (cutL ds lo hi)) := fun B1 e0 H k Q q =>
  h B1 e0 H k _ fun v B2 H2 s2 k2 g => hl B2 (e0.trans s2.bb) H2 k2 _ fun B3 H3 s3 k3 => hh B3 ((e0.trans s2.bb).trans s3.bb) H3 k3 _ fun B4 H4 s4 k4 => by
    obtain ⟨a, xs, rfl, h1, l1, g1⟩ := dd_tup (Dd.up g (s3.bb.trans s4.bb))
    have en := g1.len
    have ec : cutV xs lo hi = cutL xs lo hi := rfl
    refine .inl ⟨a, xs, rfl, ex_t k4.e h1, fun hw => ?_, fun hw p hp => ?_⟩
    · have ed : cutL ds lo hi = ds := by
        unfold cutL
        rw [en] at hw
        rw [hw.1, hw.2, List.drop_zero, Nat.sub_zero, List.take_length]
      refine q (.ref a) B4 H4 ((s2.trans s3).trans s4) k4 ?_
      rw [ed]
      exact .tup h1 l1 g1
    · refine q (.ref p) _ _ (((s2.trans s3).trans s4).trans (Step.alloc k4.e hp)) (k4.alloc hp) (.tup (st_of upd_same) ?_ ?_)
      · exact Nat.le_trans (cutV_length xs lo hi) l1
      · have g2 : DdAll K B4 (cutL xs lo hi) (cutL ds lo hi) := by
          unfold cutL
          rw [en]
          exact (g1.drop _).take _
        exact g2.up (Ex.new (fresh_back k4.e hp))
theorem ed_slS {s : Str} (h : ED F K te σ B (.str s)) (hl : EO F tl σ B lo) (hh : EO F th σ B hi) (hz : (cutS s lo hi).length ≤ 16777216) : ED F K (tSl (rSlX K) te tl th) σ B (.str (cutS s lo hi)) := fun B1 e0 H k Q q =>
  h B1 e0 H k _ fun v B2 H2 s2 k2 g => hl B2 (e0.trans s2.bb) H2 k2 _ fun B3 H3 s3 k3 => hh B3 ((e0.trans s2.bb).trans s3.bb) H3 k3 _ fun B4 H4 s4 k4 => by
    obtain ⟨rfl, hl⟩ := dd_str g
    exact .inr ⟨s, rfl, hl, q _ B4 H4 ((s2.trans s3).trans s4) k4 (.str _ (by rw [sizeLine_eq]; exact hz))⟩
theorem ed_rev (h : ED F K te σ B (.tuple ds)) : ED F K (tRevT K te) σ B (.tuple ds.reverse) := fun B1 e0 H k Q q =>
  h B1 e0 H k _ fun v B2 H2 s2 k2 g => by
    obtain ⟨a, xs, rfl, h1, l1, g1⟩ := dd_tup g
    exact ⟨a, xs, rfl, ex_t k2.e h1, fun p hp => q _ _ _ (s2.trans (Step.alloc k2.e hp)) (k2.alloc hp) (.tup (st_of upd_same) (by rw [List.length_reverse]; exact l1) ((g1.rev).up (Ex.new (fresh_back k2.e hp))))⟩

/-! ### x in xs, flat -/
def flatD : PyData → Bool
  | .none => true
  | .bool _ => true
  | .int _ => true
  | .str _ => true
  | _ => false
theorem flat_dv {H : Hp} {v : V} (h : Dd K H v d) (f : flatD d = true) : flatV v = true := by
  cases h <;> first | rfl | cases f
theorem eqV_dv {H : Hp} {v u : V} {e : PyData} (h : Dd K H v d) (g : Dd K H u e) (f : flatD d = true) (f' : flatD e = true) : eqV v u = PyData.eqv d e := by
  cases h <;> cases g <;> first | rfl | (cases f) | (cases f') | (simp [eqV, PyData.eqv])
theorem flats_dv {H : Hp} : ∀ {vs : List V} {ds : List PyData}, DdAll K H vs ds → ds.all flatD = true → vs.all flatV = true
  | _, _, .nil, _ => rfl
  | _, _, .cons a t, f => by
    rw [List.all_cons, Bool.and_eq_true] at f
    rw [List.all_cons, flat_dv a f.1, flats_dv t f.2]
    rfl
theorem inV_dv {H : Hp} {v : V} (h : Dd K H v d) (f : flatD d = true) : ∀ {vs : List V} {ds : List PyData}, DdAll K H vs ds → ds.all flatD = true → inV v vs = ds.any fun e => PyData.eqv e d
  | _, _, .nil, _ => rfl
  | _, _, .cons a t, g => by
    rw [List.all_cons, Bool.and_eq_true] at g
    have ih := inV_dv h f t g.2
    unfold inV at ih ⊢
    rw [List.any_cons, List.any_cons, ih, eqV_dv a h g.1 f]
def inD (d : PyData) (ds : List PyData) : Bool := ds.any fun e => PyData.eqv e d
theorem rd_in {neg : Bool} (hy : y = .list ds ∨ y = .tuple ds) (f : flatD x = true) (g : ds.all flatD = true) : RD2 F K (rIn K neg) B x y (.bool (if neg then !inD x ds else inD x ds)) := rd_of fun H u v hu hv => by
  rcases hy with rfl | rfl
  · obtain ⟨a, xs, rfl, h1, l1, g1⟩ := dd_lst hv
    refine ⟨.bl (if neg then !inD x ds else inD x ds), fun _ => .bl _, fun Q q => ⟨a, xs, rfl, .inl (sq_of h1), flat_dv hu f, flats_dv g1 g, ?_⟩⟩
    rw [inV_dv hu f g1 g]
    exact q
  · obtain ⟨a, xs, rfl, h1, l1, g1⟩ := dd_tup hv
    refine ⟨.bl (if neg then !inD x ds else inD x ds), fun _ => .bl _, fun Q q => ⟨a, xs, rfl, .inr h1, flat_dv hu f, flats_dv g1 g, ?_⟩⟩
    rw [inV_dv hu f g1 g]
    exact q
theorem rd_isin (hy : y = .list ds ∨ y = .tuple ds) (f : flatD x = true) (g : ds.all flatD = true) : RD2 F K (rIn K false) B x y (.bool (inD x ds)) := rd_in (neg := false) hy f g
theorem rd_notin (hy : y = .list ds ∨ y = .tuple ds) (f : flatD x = true) (g : ds.all flatD = true) : RD2 F K (rIn K true) B x y (.bool (!inD x ds)) := rd_in (neg := true) hy f g
/-! ### all, is, texts -/
theorem bls_dv {H : Hp} : ∀ {vs : List V} {bs : List Bool}, DdAll K H vs (bs.map .bool) → vs = bs.map V.bl
  | _, [], h => by cases h; rfl
  | _, b :: bs, h => by
    cases h with
    | cons a t =>
      rw [dd_bl a, bls_dv t]
      rfl
theorem rc_all {bs : List Bool} : RDc F K (rAll K) B [.list (bs.map .bool)] (.bool (bs.all id)) := rc_of fun H u hu => by
  obtain ⟨a, xs, rfl, h1, l1, g1⟩ := dd_lst hu
  exact ⟨.bl (bs.all id), fun _ => .bl _, fun Q q => ⟨a, bs, rfl, by rw [← bls_dv g1]; exact sq_of h1, q⟩⟩
theorem rd_isB {a b : Bool} : RD2 F K rIsB B (.bool a) (.bool b) (.bool (decide (a = b))) := rd_of fun H u v hu hv => ⟨.bl _, fun _ => .bl _, fun Q q => ⟨a, b, dd_bl hu, dd_bl hv, q⟩⟩
theorem rd_ltS {a b : Str} : RD2 F K (fun x y H Q => ∃ i j, x = .str i ∧ y = .str j ∧ Q (.bl (decide (i.cps.toList < j.cps.toList))) H) B (.str a) (.str b) (.bool (decide (a.cps.toList < b.cps.toList))) := rd_of fun H u v hu hv => ⟨.bl _, fun _ => .bl _, fun Q q => ⟨a, b, (dd_str hu).1, (dd_str hv).1, q⟩⟩
theorem rd_gtS {a b : Str} : RD2 F K (fun x y H Q => ∃ i j, x = .str i ∧ y = .str j ∧ Q (.bl (decide (j.cps.toList < i.cps.toList))) H) B (.str a) (.str b) (.bool (decide (b.cps.toList < a.cps.toList))) := rd_of fun H u v hu hv => ⟨.bl _, fun _ => .bl _, fun Q q => ⟨a, b, (dd_str hu).1, (dd_str hv).1, q⟩⟩
theorem rd_leS {a b : Str} : RD2 F K (fun x y H Q => ∃ i j, x = .str i ∧ y = .str j ∧ Q (.bl (!decide (j.cps.toList < i.cps.toList))) H) B (.str a) (.str b) (.bool (!decide (b.cps.toList < a.cps.toList))) := rd_of fun H u v hu hv => ⟨.bl _, fun _ => .bl _, fun Q q => ⟨a, b, (dd_str hu).1, (dd_str hv).1, q⟩⟩
theorem rd_rep {n : Int} (h0 : ds ≠ []) (h1 : 2 ≤ n) (h2 : n ≤ 1000) (h3 : ds.length ≤ 1000) : RD2 F K (rRepT K) B (.tuple ds) (.int n) (.tuple (List.replicate n.toNat ds).flatten) := fun B1 e0 H u v k hu hv Q q => by
  obtain ⟨a, xs, rfl, g1, l1, g2⟩ := dd_tup hu
  have en := g2.len
  refine ⟨a, n, xs, rfl, dd_int hv, ex_t k.e g1, fun z => h0 ?_, h1, h2, by rw [en]; exact h3, fun p hp => q _ _ _ (Step.alloc k.e hp) (k.alloc hp) (.tup (st_of upd_same) ?_ ((g2.rep _).up (Ex.new (fresh_back k.e hp))))⟩
  · rw [z] at en
    exact List.eq_nil_of_length_eq_zero en.symm
  · rw [List.length_flatten, List.map_replicate, List.sum_replicate_nat, en, sizeLine_eq]
    have : n.toNat ≤ 1000 := by omega
    exact Nat.le_trans (Nat.mul_le_mul this h3) (by decide)
/-- [te for c in s if tt], s a text -/
def sgn (c : Nat) : Str := ⟨#[c]⟩
theorem ed_lcS {tt : TT} {j : Nat} {vsN : List Nat} {s : Str} (p : Nat → Bool) (g : Nat → PyData) (h : ED F K te σ B (.str s)) (hw : ∀ x, wipe ((wipe σ vsN).set j (some x)) vsN = wipe σ vsN) {tel : TE}
    (ht : ∀ c B1, c ∈ s.cps.toList → Ex B B1 → ETt F tt ((wipe σ vsN).set j (some (.str (sgn c)))) B1 (p c))
    (he : ∀ c B1, c ∈ s.cps.toList → p c = true → Ex B B1 → ED F K tel ((wipe σ vsN).set j (some (.str (sgn c)))) B1 (g c)) :
    ED F K (tLc (iStr te) (gName j) tt tel vsN) σ B (.list ((s.cps.toList.filter p).map g)) := fun B0 e0 H0 k0 Q q => by
  refine h B0 e0 H0 k0 _ fun v B1 H1 s1 k1 pv => ?_
  obtain ⟨rfl, hl⟩ := dd_str pv
  have hsz : s.cps.toList.length = s.length := by simp [Str.length]
  have fl : ∀ i, ((s.cps.toList.take i).filter p).length ≤ i := fun i => Nat.le_trans (List.length_filter_le _ _) (by rw [List.length_take]; exact Nat.min_le_left _ _)
  rw [sizeLine_eq] at hl
  refine ⟨s, rfl, fun Dl hD => ⟨fun i m H' => m = s.cps.size - i ∧ i ≤ s.cps.size ∧ Cq F K B1 H1 Dl (((s.cps.toList.take i).filter p).map g) H', ⟨s.cps.size, by simp, Nat.zero_le _, cq_start k1 hD⟩, ?_⟩⟩
  rintro i m H' ⟨rfl, hi, c⟩
  by_cases hlt : i < s.cps.size
  · refine .inr ⟨hlt, fun H2 => Cq F K B1 H1 Dl (((s.cps.toList.take (i + 1)).filter p).map g) H2, fun H2 c2 => ⟨s.cps.size - (i + 1), by omega, rfl, hlt, c2⟩, ?_⟩
    rintro x H2 ⟨rfl, ch, hc, rfl⟩
    have hc' : s.cps.toList[i]? = some ch := by
      rw [Array.getElem?_toList]
      exact hc
    refine ⟨hw _, ?_⟩
    rw [take_snoc hc', filter_snoc]
    exact cq_turn k1 hD (by rw [List.length_map]; exact Nat.lt_of_le_of_lt (fl i) (by have : s.cps.size = s.length := rfl; omega)) c (fun B' e => ht ch B' (List.mem_of_getElem? hc') ((e0.trans s1.bb).trans e)) (fun hp B' e => he ch B' (List.mem_of_getElem? hc') hp ((e0.trans s1.bb).trans e))
  · have e : i = s.cps.size := by omega
    subst e
    refine .inl ⟨Nat.le_refl _, ?_⟩
    rw [show s.cps.size = s.cps.toList.length from by simp, List.take_length] at c
    obtain ⟨B2, s2, k2, g2⟩ := cq_done k1 hD (by rw [List.length_map]; exact Nat.le_trans (List.length_filter_le _ _) (by omega)) c
    exact q _ B2 _ (s1.trans s2) k2 g2
end
end Dx

/-! [.. for x, y in pairs if ..]: a comprehension whose target is a pair of names. -/
namespace Dx
open PySem PySem.Spec PyProof.Rows L2 Evl
section
variable {F : Fm} {K : PySem.W.Frag} {σ : L2.St} {B : Hp} {tl te : TE} {tt : TT} {i j : Nat} {ds : List PyData} {vsN : List Nat}
abbrev g2 (K : PySem.W.Frag) (i j : Nat) : TG := gTup K 2 (gCons (gName i) (gCons (gName j) gNil))
theorem ed_lcP (p : PyData → Bool) (g : PyData → PyData) (h : EV F tl σ B (SqV K (DDs K ds))) (hz : ds.length ≤ 16777216) (hp : ∀ d ∈ ds, ∃ x y, d = .tuple [x, y]) (hw : ∀ u v, wipe (((wipe σ vsN).set i (some u)).set j (some v)) vsN = wipe σ vsN)
    (ht : ∀ x y u v B1, PyData.tuple [x, y] ∈ ds → Ex B B1 → Dd K B1 u x → Dd K B1 v y → ETt F tt (((wipe σ vsN).set i (some u)).set j (some v)) B1 (p (.tuple [x, y])))
    (he : ∀ x y u v B1, PyData.tuple [x, y] ∈ ds → p (.tuple [x, y]) = true → Ex B B1 → Dd K B1 u x → Dd K B1 v y → ED F K te (((wipe σ vsN).set i (some u)).set j (some v)) B1 (g (.tuple [x, y]))) :
    ED F K (tLc (iSeq K tl) (g2 K i j) tt te vsN) σ B (.list ((ds.filter p).map g)) := fun B0 e0 H0 k0 Q q => by
  refine h B0 e0 H0 k0 _ fun v B1 H1 s1 k1 pv => ?_
  obtain ⟨l, vs, rfl, hl, ps⟩ := pv
  have ps' : DdAll K B1 vs ds := ps
  have en := ps'.len
  have fl : ∀ i, ((ds.take i).filter p).length ≤ i := fun i => Nat.le_trans (List.length_filter_le _ _) (by rw [List.length_take]; exact Nat.min_le_left _ _)
  have turn : ∀ (Dl : Addr), H1 Dl = none → ∀ n x H', vs[n]? = some x → Cq F K B1 H1 Dl (((ds.take n).filter p).map g) H' → g2 K i j x (wipe σ vsN) H' fun σ2 H2 => wipe σ2 vsN = wipe σ vsN ∧ tt σ2 H2 fun b H3 =>
      if b = true then te σ2 H3 fun y H4 => ∃ acc, H4 Dl = some (.lst acc) ∧ acc.length < sizeLine ∧ Cq F K B1 H1 Dl (((ds.take (n + 1)).filter p).map g) (upd H4 Dl (.lst (acc ++ [y]))) else Cq F K B1 H1 Dl (((ds.take (n + 1)).filter p).map g) H3 := by
    intro Dl hD n x H' hx c
    obtain ⟨d, hd, hdv⟩ := ps'.getv hx
    have hm : d ∈ ds := List.mem_of_getElem? hd
    have hi : n < ds.length := (List.getElem?_eq_some_iff.mp hd).1
    obtain ⟨a, b, rfl⟩ := hp d hm
    obtain ⟨t, us, rfl, h1, _, hus⟩ := dd_tup hdv
    obtain ⟨u, w, rfl, hu, hw'⟩ := arg2 hus
    obtain ⟨B', acc, s, k, hb, hd', ha⟩ := id c
    refine ⟨t, _, rfl, ex_t (s.bb.trans k.e) h1, rfl, u, _, rfl, w, _, rfl, rfl, hw u w, ?_⟩
    rw [take_snoc hd, filter_snoc]
    exact cq_turn k1 hD (by rw [List.length_map]; exact Nat.lt_of_le_of_lt (fl n) (by omega)) c (fun B' e => ht a b u w B' hm ((e0.trans s1.bb).trans e) (hu.up e) (hw'.up e)) (fun hpt B' e => he a b u w B' hm hpt ((e0.trans s1.bb).trans e) (hu.up e) (hw'.up e))
  have fin : ∀ (Dl : Addr), H1 Dl = none → ∀ H', Cq F K B1 H1 Dl (((ds.take vs.length).filter p).map g) H' → Q (.ref Dl) H' := by
    intro Dl hD H' c
    rw [en, List.take_length] at c
    obtain ⟨B2, s2, k2, g2⟩ := cq_done k1 hD (by rw [List.length_map]; exact Nat.le_trans (List.length_filter_le _ _) hz) c
    exact q _ B2 H' (s1.trans s2) k2 g2
  refine ⟨l, rfl, ?_⟩
  rcases hl with hl | hl
  · refine .inl ⟨⟨vs, ex_l k1.e hl⟩, fun Dl hD => lc_list (K := K) (xs := vs) (fun i => Cq F K B1 H1 Dl (((ds.take i).filter p).map g)) (cq_start k1 hD) (fun i H' _ c => ?_) (fun i x H' hx c => turn Dl hD i x H' hx c) (fun H' c => fin Dl hD H' c)⟩
    obtain ⟨B', acc, s, k, _⟩ := c
    exact ex_l k.e (ex_l s.bb hl)
  · refine .inr ⟨⟨vs, ex_t k1.e hl⟩, fun Dl hD => lc_tup (K := K) (xs := vs) (fun i => Cq F K B1 H1 Dl (((ds.take i).filter p).map g)) (cq_start k1 hD) (fun i H' _ c => ?_) (fun i x H' hx c => turn Dl hD i x H' hx c) (fun H' c => fin Dl hD H' c)⟩
    obtain ⟨B', acc, s, k, _⟩ := c
    exact ex_t k.e (ex_t s.bb hl)
end
end Dx

/-! list.extend of a tuple, list.count of texts, list(reversed(a tuple)). -/
namespace Qx
open PySem PySem.Spec PyProof.Rows L2
open AutoSeq1 (wpAny_loadPart')

/-! ### x.extend(a tuple) -/
theorem extend_tuple (l : Addr) (items : Array Value) (n : Nat) (b : Addr) (dd : Option Addr) (sl : Array (Option Value)) (items2 : Array Value) (n2 : Nat) (hs0 : ¬(!items.isEmpty && Builtin.List.listTooLong (items.size + items2.size)) = true) (hs1 : items.size ≤ sizeLine) (hs2 : items.size + items2.size ≤ sizeLine + 1) :
    Meets (Builtin.«list.extend» ⟨[.ref l, .ref b], []⟩) (fun _ R s => s.heap.get? l = some { cls := .type "list", dict := none, data := .seq items n, slots := #[] } ∧ s.heap.get? b = some { cls := .type "tuple", dict := dd, data := .seq items2 n2, slots := sl } ∧ R (.ok (.ret Value.none)) { s with heap := s.heap.update l (Obj.mapSeq fun x => x ++ items2), toks := s.toks }) :=
  .of_wp fun prog w A R s h => by
    obtain ⟨hp, g, d, tk, os⟩ := s; obtain ⟨hl, hb, h⟩ := h; have f1 := AutoSeq1.idx_int; have f2 := AutoSeq1.sub_tuple_tuple; have f3 := AutoSeq1.sub_list_list; have f4 := AutoSeq1.sub_tuple_list; have f5 := AutoSeq1.sub_list_tuple;
    have hz' : (items ++ items2).size ≤ sizeLine + 1 := by rw [Array.size_append]; exact hs2
    wp_walk using (wpAny_updateSeq hl rfl (hz := hs1) (_hz' := hz')), wpAny_loadPart' hl, wpAny_loadPart' hb; exact ⟨_, rfl, h⟩
section
variable {X : Cx}
def rExtendT (K : PySem.W.Frag) : V → List V → Hp → VK → Prop := fun x vs H Q => ∃ l b xs zs, x = .ref l ∧ vs = [.ref b] ∧ H l = some (.lst xs) ∧ SqT K H b zs ∧ xs.length + zs.length ≤ sizeLine ∧ Q .non (upd H l (.lst (xs ++ zs)))
theorem mt_extendT (K : PySem.W.Frag) (hK : X.K = K := by rfl) : MtM X "list.extend" (rExtendT K) := by
  subst hK
  intro pins s σ H x vs v us Q I rx rv h
  obtain ⟨l, b, xs, zs, rfl, rfl, hH, hB, hz, q⟩ := h
  cases rx
  obtain ⟨u, rfl, ru⟩ := rv.one
  cases ru
  obtain ⟨z, its, n, r, hl, e⟩ := I.lstM hH
  obtain ⟨its2, r2, ⟨⟨cls, dd, data, sl⟩, e2, hc, n2, hd⟩, hl2⟩ := I.tuple hB
  simp only at hc hd
  subst hc hd
  have hl3 := r2.length
  have hsz : its.toArray.size + its2.toArray.size ≤ sizeLine := by rw [List.size_toArray, List.size_toArray]; omega
  have hlong : ¬ (!its.toArray.isEmpty && Builtin.List.listTooLong (its.toArray.size + its2.toArray.size)) = true := by
    rw [notLongL hsz, Bool.and_false]
    exact Bool.false_ne_true
  refine call_meets F.slot_list_extend ⟨_, e, rfl⟩ F.entry_list_extend (F.args_list_extend_2 _ _)
    (extend_tuple l its.toArray n b dd sl its2.toArray n2 hlong (by rw [List.size_toArray]; omega) (by omega)) ⟨e, e2, ?_⟩
  refine ⟨.non, _, I.lset (its' := its ++ its2) hH e (by simp) (r.append r2) ?_, rfl, q⟩
  rw [List.length_append]
  omega

/-! ### x.count(text), x a list of texts -/
def eqs (k : Str) (v : Value) : Bool := match v with
  | .str n _ => n == k
  | _ => false
theorem strs_of {xs : List Str} : ∀ {us : List Value}, Vals (xs.map V.str) us → (∀ y ∈ us, ∃ x t, y = .str x t) ∧ ∀ k, us.countP (eqs k) = xs.count k := by
  induction xs with
  | nil =>
    intro us r
    cases r
    exact ⟨fun y hy => (nomatch hy), fun k => rfl⟩
  | cons x xs ih =>
    intro us r
    cases r with
    | cons a t =>
      obtain ⟨h1, h2⟩ := ih t
      obtain ⟨tk, rfl⟩ := a
      refine ⟨fun y hy => ?_, fun k => ?_⟩
      · rcases List.mem_cons.mp hy with rfl | hy
        · exact ⟨_, _, rfl⟩
        · exact h1 y hy
      · rw [List.countP_cons, List.count_cons, h2 k]
        rfl
def rCntS (K : PySem.W.Frag) : V → List V → Hp → VK → Prop := fun x xs H Q => ∃ (p : Addr) (ns : List Str) (k : Str), x = .ref p ∧ xs = [.str k] ∧ SqL K H p (ns.map V.str) ∧ Q (.int (ns.count k : Nat)) H
theorem mt_scount (K : PySem.W.Frag) (hK : X.K = K := by rfl) : MtR X "list.count" (rCntS K) := by
  subst hK
  intro pins s σ H x xs v us Q I rx rxs h
  obtain ⟨p, ns, k, rfl, rfl, hs, q⟩ := h
  cases rx
  obtain ⟨u, rfl, ru⟩ := rxs.one
  obtain ⟨t, rfl⟩ := ru
  obtain ⟨its, rv, ⟨⟨cls, dd, data, sl⟩, n, ho, hc, hdn, hd⟩, hlen⟩ := I.list hs
  simp only at hc hd
  subst hc hd
  obtain ⟨hi, ec⟩ := strs_of rv
  refine call_meets PySem.F.slot_list_count ⟨_, ho, rfl⟩ PySem.F.entry_list_count (PySem.F.args_list_count_2 _ _)
    (SeqAt.list_countAt p its.toArray n dd sl (.str k t) (eqs k)) ⟨ho, fun y hy => ?_, ?_⟩
  · obtain ⟨x, t', rfl⟩ := hi y (by simpa using hy)
    exact SeqAt.EqAt.str_str x t' k t
  · refine ⟨.int (ns.count k : Nat), H, I.tok _, ⟨s.toks, ?_⟩, q⟩
    show Value.int ((its.toArray.toList.countP (eqs k) : Nat) : Int) s.toks = Value.int ((ns.count k : Nat) : Int) s.toks
    rw [ec k]
end

/-! ### list(reversed(a tuple)) -/
theorem nolen_rt : typeLookup (.type "reversed") "__len__" = pure none := by rw [typeLookup_type, builtinLookup_eq_fast]; kernel_rfl
theorem hint_rt : typeLookup (.type "reversed") "__length_hint__" = pure (some (.builtin "reversed.__length_hint__")) := by rw [typeLookup_type, builtinLookup_eq_fast]; kernel_rfl
theorem walks_rt {prog : Program} {w : World} {A : Around} (hh : A.handled = none) (I l : Addr) (hne : l ≠ I) (items : Array Value) (hz : items.size ≤ sizeLine) :
    Walks prog w A I [I, l] [I] items.size (fun i v => items[items.size - 1 - i]? = some v) (fun i h => i ≤ items.size ∧ RT.IsRt h I l ((items.size : Int) - 1 - (i : Int)) ∧ IsTup h l items) where
  sub := fun b hb => by simp at hb; simp [hb]
  frame := fun _ _ _ x hk => ⟨x.1, x.2.1.at fun o e => hk I (by simp) o e, let ⟨o, ho, r⟩ := x.2.2; ⟨o, hk l (by simp) o ho, r⟩⟩
  item := fun i s Q E hi x hQ => by
    have e : (items.size : Int) - 1 - (i : Int) = ((items.size - 1 - i : Nat) : Int) := by omega
    have hit := x.2.1
    rw [e] at hit
    have hx : items[items.size - 1 - i]? = some (items[items.size - 1 - i]'(by omega)) := Array.getElem?_eq_getElem (by omega)
    refine RT.next_rt_item hit x.2.2 hx hz fun h' hit' hs' => ?_
    have e2 : ((items.size - 1 - i : Nat) : Int) - 1 = (items.size : Int) - 1 - ((i + 1 : Nat) : Int) := by omega
    rw [e2] at hit'
    exact hQ _ h' (s.toks + 1) hx ⟨hi, hit', let ⟨o, ho, r⟩ := x.2.2; ⟨o, (hs'.2 l hne).trans ho, r⟩⟩ fun b o hb eo => hs'.extBut b o (fun h => hb (by simp [h])) eo
  done := fun s Q E x hQ => by
    have e : (items.size : Int) - 1 - (items.size : Int) = -1 := by omega
    have hit := x.2.1
    rw [e] at hit
    exact RT.next_rt_end hh hit fun h' he' => hQ h' s.toks fun b o hb eo => he' b o (fun h => hb (by simp [h])) eo
  self := fun _ _ _ _ x hQ => RT.iter_rt x.2.1 hQ
theorem slot_rt_hint : Slot "reversed" "__length_hint__" "reversed.__length_hint__" :=
  .of (owner := "reversed") (n := "__length_hint__") (by rw [typeLookup_type, builtinLookup_eq_fast]; kernel_rfl) (by decide +kernel) (by decide +kernel) (by decide +kernel)
    (by first | exact .inl (by decide +kernel) | exact .inr (by decide +kernel)) (by rw [isSubtype_type]; kernel_rfl)
theorem entry_rt_hint : entryFor table "reversed.__length_hint__" = some Builtin.«reversed.__length_hint__» := entryFor_of_tree (by kernel_rfl)
theorem args_rt_hint (a : Value) : argsOk "reversed.__length_hint__" ⟨[a], []⟩ := by
  unfold argsOk; rw [signature?_of (id := "reversed.__length_hint__") (n := ['_', '_', 't', 'n', 'i', 'h', '_', 'h', 't', 'g', 'n', 'e', 'l', '_', '_']) (o := ['d', 'e', 's', 'r', 'e', 'v', 'e', 'r']) (by kernel_rfl) RT.owner_rt]; kernel_rfl
section
variable {prog : Program} {w : World} {A : Around} {E : Value → Shared → Prop} {s : Shared}
theorem call_hint_rt {it t : Addr} {items : Array Value} {Q : Value → Shared → Prop} (hit : RT.IsRt s.heap it t ((items.size : Int) - 1)) (ht : IsTup s.heap t items) (hsz : items.size ≤ sizeLine)
    (h : ∀ u k, s.toks ≤ k → Q (.int (items.size : Nat) u) { s with toks := k }) : wpAny (model prog w) A (call (.builtin "reversed.__length_hint__") [.ref it]) Q E s := by
  obtain ⟨o, ho, hc, hd⟩ := id hit
  rw [sizeLine_eq] at hsz
  refine wpAny_call_entry slot_rt_hint hit.typeIs entry_rt_hint ?_ (args_rt_hint _)
  unfold Builtin.«reversed.__length_hint__»
  refine wpAny_bind (wpAny_of_eq (a := Value.ref it) rfl ?_)
  try dsimp only
  refine wpAny_bind (wpAny_field ho hd (x := .ref t) rfl ?_)
  try dsimp only
  rw [if_neg (show ¬ ((Value.ref t == Value.none) = true) from by simp)]
  try dsimp only
  refine wpAny_bind (len_tuple ht (by omega) ?_)
  refine wpAny_bind (wpAny_of_eq (a := some ((items.size : Nat) : Int)) rfl ?_)
  try dsimp only
  refine wpAny_bind (wpAny_field (s := { s with toks := s.toks + 1 + 1 }) ho hd (x := rawInt ((items.size : Int) - 1)) rfl ?_)
  try dsimp only
  have e1 : (items.size : Int) - 1 + 1 = (items.size : Nat) := by omega
  show wpAny _ _ (if ((items.size : Nat) : Int) < (items.size : Int) - 1 + 1 then _ else _) _ _ _
  rw [if_neg (by omega), e1]
  unfold retInt
  refine wpAny_bind (wpAny_mkInt ?_)
  exact wpAny_pure ⟨_, rfl, h _ _ (by show s.toks ≤ s.toks + 1 + 1 + 1; omega)⟩
end
section
variable {prog : Program} {w : World} {A : Around} {s : Shared} {R : Result → Shared → Prop}
theorem extend_rt (hh : A.handled = none) {I l : Addr} {items : Array Value} (hne : l ≠ I) (hz : items.size ≤ sizeLine) (hit : RT.IsRt s.heap I l ((items.size : Int) - 1)) (ht : IsTup s.heap l items) (S : Addr) (res : Value) (c₀ : Nat) (hSI : S ≠ I) (hSl : S ≠ l)
    (hS : s.heap.get? S = some { cls := .type "list", data := .seq #[] c₀ })
    (hR : ∀ s' acc' c', Moved [S, I] (fun a b => b = a) s s' → s'.heap.get? S = some { cls := .type "list", dict := none, data := .seq acc' c', slots := #[] } → ItemsOf (fun i v => items[items.size - 1 - i]? = some v) acc' items.size → R (.ok (.ret res)) s') :
    wpAny (model prog w) A.in1 (Builtin.List.listExtendWith (.ref S) (.ref I) res)
      (fun fin s' => match fin with | .done f => R (.ok f) s' | .again c' => c'.quiet = true ∧ codeAny (model prog w) A c' R s') (fun e s' => R (.error e) s') s := by
  have W := (walks_rt (prog := prog) (w := w) (A := A.in1) hh I l hne items hz).toS
  have hSf : S ∉ [I, l] := by simp [hSI, hSl]
  have e0 : ((items.size : Nat) : Int) - 1 - ((0 : Nat) : Int) = (items.size : Int) - 1 := by omega
  have hst : (fun (i : Nat) (s : Shared) => i ≤ items.size ∧ RT.IsRt s.heap I l ((items.size : Int) - 1 - (i : Int)) ∧ IsTup s.heap l items) 0 s := ⟨Nat.zero_le _, by rw [e0]; exact hit, ht⟩
  unfold Builtin.List.listExtendWith
  refine wpAny_bind (wpAny_typeOf hit.typeIs ?_)
  have h1 : Builtin.List.listSameRef (.ref S) (.ref I) = false := by simp [Builtin.List.listSameRef, hSI]
  have h2 : (Value.type "reversed" == Value.type "list") = false := by decide
  have h3 : (Value.type "reversed" == Value.type "tuple") = false := by decide
  simp only [h1, h2, h3, Bool.or_false, Bool.false_eq_true, if_false]
  refine wpAny_bind (W.self 0 _ _ _ hst ?_)
  refine wpAny_bind (wpAny_holding ?_)
  unfold Builtin.List.listLengthHint
  refine wpAny_bind (wpAny_specialOf hit.typeIs nolen_rt ?_)
  show wpAny _ A.in1 (specialOf (Value.ref I) (Str.ofString "__length_hint__") >>= _) _ _ _
  refine wpAny_bind (wpAny_specialOf hit.typeIs hint_rt ?_)
  generalize hid : ("reversed.__length_hint__" : String) = id0
  wp_delta
  rw [show splitId id0 = some ("reversed", "__length_hint__") from by subst hid; decide +kernel]
  subst hid
  refine wpAny_bind (wpAny_isInstance (b := true) hit.typeIs (by rw [isSubtype_type]; kernel_rfl) ?_)
  try dsimp only
  rw [if_neg (by decide)]
  rw [if_neg (by decide +kernel)]
  refine wpAny_bind (wpAny_rule ?_)
  refine wpAny_bind (wpAny_of_eq (slot_rt_hint.bind _) ?_)
  try dsimp only
  refine wpAny_bind (wpAny_attempt (call_hint_rt (items := items) hit ht hz fun u k hk => ?_))
  try dsimp only
  have hf : Builtin.List.listFitsIndex ((items.size : Nat) : Int) = true := by
    rw [sizeLine_eq] at hz
    unfold Builtin.List.listFitsIndex
    simp only [Bool.and_eq_true, decide_eq_true_eq]
    omega
  show wpAny _ A.in1 (asInt? (Value.int ((items.size : Nat) : Int) u) >>= _) _ _ _
  have hai : asInt? (Value.int ((items.size : Nat) : Int) u) = pure (some ((items.size : Nat) : Int)) := rfl
  rw [hai, pure_bind]
  try dsimp only
  have hng : ¬ (((items.size : Nat) : Int) < 0) := by omega
  rw [hf, if_neg (show ¬ ((!true) = true) from Bool.false_ne_true), if_neg hng, Int.toNat_natCast, notLongL hz, if_neg Bool.false_ne_true]
  refine wpAny_pure ?_
  have loop : ∀ (h' : Heap) (c' : Nat), (∀ b o, b ≠ S → s.heap.get? b = some o → h'.get? b = some o) → h'.get? S = some { cls := .type "list", data := .seq #[] c' } →
      codeAny (model prog w) A (.builtin "list.extend.loop" ⟨[.ref S, .ref I, res], []⟩) R { s with heap := h', toks := k } := by
    intro h' c' oth hS'
    refine codeAny_extend_loopS W hz _ hSf _ items.size 0 _ _ _ rfl (Nat.zero_le _) (W.frame 0 s h' k hst hk fun b hb o e => oth b o (fun z => hSf (z ▸ hb)) e) hS' (ItemsOf.nil _) fun s' acc' c'' hm hS'' hacc => ?_
    have m0 : Moved [S, I] (fun a b : Array GenState => b = a) s { s with heap := h', toks := k } := (Moved.refl (wr := [S, I]) (G := fun a b : Array GenState => b = a) fun _ => rfl).then_heap hk fun b o hb e => oth b o (fun z => hb (by rw [z]; exact List.mem_cons_self)) e
    exact hR s' acc' c'' (Moved.trans (fun _ _ _ h1 h2 => h2.trans h1) m0 hm) hS'' hacc
  by_cases h0 : items.size = 0
  · have hb : (((items.size : Nat) : Int) != 0) = false := by rw [h0]; rfl
    rw [hb]
    rw [if_neg (by decide +kernel)]
    exact wpAny_pure ⟨plainId_quiet F.plain_extend_loop _, loop s.heap c₀ (fun b o _ e => e) hS⟩
  · have hb : (((items.size : Nat) : Int) != 0) = true := by
      rw [bne_iff_ne]
      omega
    rw [hb, Bool.true_or, if_pos rfl]
    refine wpAny_bind (wpAny_rule ?_)
    refine wpAny_bind ?_
    show wpAny _ A.in1 (updateSeq S (·.push .none) >>= fun _ => updateSeq S (·.pop)) _ _ _
    refine wpAny_bind (wpAny_updateSeq (s := { s with toks := k }) (hz := Nat.zero_le _) (_hz' := Nat.le_add_left 1 _) hS rfl ?_)
    have hS₂ := Heap.get?_update_self (Obj.mapSeq (·.push Value.none)) hS rfl
    refine wpAny_updateSeq (hz := show 1 ≤ sizeLine by rw [sizeLine_eq]; decide) (_hz' := Nat.zero_le _) hS₂ rfl ?_
    have hS₃ := Heap.get?_update_self (Obj.mapSeq (·.pop)) hS₂ rfl
    exact wpAny_pure ⟨plainId_quiet F.plain_extend_loop _, loop _ _ (fun b o hb e => (Heap.get?_update_other _ _ (Ne.symm hb)).trans ((Heap.get?_update_other _ _ (Ne.symm hb)).trans e)) hS₃⟩
theorem list_init_rt (hh : A.handled = none) {I l : Addr} {items : Array Value} (hne : l ≠ I) (hz : items.size ≤ sizeLine) (hit : RT.IsRt s.heap I l ((items.size : Int) - 1)) (ht : IsTup s.heap l items) (S : Addr) (hSI : S ≠ I) (hSl : S ≠ l)
    (hS : s.heap.get? S = some { cls := .type "list", data := .seq #[] })
    (hR : ∀ s' acc' c', Moved [S, I] (fun a b => b = a) s s' → s'.heap.get? S = some { cls := .type "list", dict := none, data := .seq acc' c', slots := #[] } → ItemsOf (fun i v => items[items.size - 1 - i]? = some v) acc' items.size → R (.ok (.ret .none)) s') :
    wpAny (model prog w) A.in1 (Builtin.«list.__init__» ⟨[.ref S, .ref I], []⟩)
      (fun fin s' => match fin with | .done f => R (.ok f) s' | .again c' => c'.quiet = true ∧ codeAny (model prog w) A c' R s') (fun e s' => R (.error e) s') s := by
  show wpAny _ A.in1 (do let old ← Builtin.List.listItems (.ref S); Builtin.List.listUpdate (.ref S) (fun _ => #[]); letGo old.toList.reverse; Builtin.List.listExtendWith (.ref S) (.ref I) .none) _ _ s
  refine wpAny_bind ?_
  unfold Builtin.List.listItems
  refine wpAny_bind (wpAny_seqItems hS rfl (wpAny_pure ?_))
  show wpAny _ A.in1 (updateSeq S (fun _ => #[]) >>= fun _ => letGo (#[] : Array Value).toList.reverse >>= fun _ => Builtin.List.listExtendWith (.ref S) (.ref I) .none) _ _ s
  refine wpAny_bind (wpAny_updateSeq hS rfl ?_)
  have hS₂ := Heap.get?_update_self (Obj.mapSeq (fun _ => (#[] : Array Value))) hS rfl
  have oth : ∀ b o, b ≠ S → s.heap.get? b = some o → (s.heap.update S (Obj.mapSeq (fun _ => (#[] : Array Value)))).get? b = some o :=
    fun b o hb e => (Heap.get?_update_other _ _ (Ne.symm hb)).trans e
  refine wpAny_bind (wpAny_letGo ?_)
  refine extend_rt hh hne hz (s := { s with heap := s.heap.update S (Obj.mapSeq (fun _ => (#[] : Array Value))) }) (hit.at fun o e => oth I o (Ne.symm hSI) e) (let ⟨o, ho, r⟩ := ht; ⟨o, oth l o (Ne.symm hSl) ho, r⟩) S .none _ hSI hSl hS₂ fun s' acc' c' hm hS' hacc => ?_
  have m0 : Moved [S, I] (fun a b : Array GenState => b = a) s { s with heap := s.heap.update S (Obj.mapSeq (fun _ => (#[] : Array Value))) } := (Moved.refl (wr := [S, I]) (G := fun a b : Array GenState => b = a) fun _ => rfl).then_heap (Nat.le_refl _) fun b o hb e => oth b o (fun h => hb (by rw [h]; exact List.mem_cons_self)) e
  exact hR s' acc' c' (Moved.trans (fun _ _ _ h1 h2 => h2.trans h1) m0 hm) hS' hacc
end
section
variable {prog : Program} {w : World} {A : Around} {E : Value → Shared → Prop} {s : Shared}
theorem call_list_rt {Q : Value → Shared → Prop} (hh : A.handled = none) {I l : Addr} {items : Array Value} (hne : l ≠ I) (hz : items.size ≤ sizeLine) (hit : RT.IsRt s.heap I l ((items.size : Int) - 1)) (ht : IsTup s.heap l items)
    (hQ : ∀ (h' : Heap) (tk : Nat) (acc : Array Value) (c' : Nat), (∀ b o, b ≠ I → s.heap.get? b = some o → h'.get? b = some o) → ItemsOf (fun i v => items[items.size - 1 - i]? = some v) acc items.size → h'.get? s.heap.objs.size = some { cls := .type "list", dict := none, data := .seq acc c', slots := #[] } →
      Q (.ref s.heap.objs.size) { s with heap := h', toks := tk }) :
    wpAny (model prog w) A (call (.type "list") [.ref I]) Q E s := by
  obtain ⟨oi, hoi, _⟩ := id hit
  obtain ⟨ol, hol, _⟩ := id ht
  have hSI : s.heap.objs.size ≠ I := Nat.ne_of_gt (Heap.lt_size hoi)
  have hSl : s.heap.objs.size ≠ l := Nat.ne_of_gt (Heap.lt_size hol)
  refine callType_codes (Q₁ := fun obj s₁ => obj = .ref s.heap.objs.size ∧ s₁ = { s with heap := s.heap.push { cls := .type "list", data := .seq #[] } }) F.called_list (F.typeCall_list_1 _) F.entry_list_init
    (code_list_new _ ⟨rfl, rfl⟩) fun obj s₁ h₁ => ?_
  obtain ⟨rfl, rfl⟩ := h₁
  have hS : (s.heap.push { cls := .type "list", data := .seq #[] }).get? s.heap.objs.size = some { cls := .type "list", data := .seq #[] } := Heap.get?_push_size _ rfl
  refine ⟨⟨_, hS, rfl⟩, F.args_list_init_2 _ _, list_init_rt (A := A.in1) hh hne hz (s := { s with heap := s.heap.push { cls := .type "list", data := .seq #[] } }) (hit.at fun o e => Heap.get?_push_of_some _ e) (let ⟨o, ho, r⟩ := ht; ⟨o, Heap.get?_push_of_some _ ho, r⟩) _ hSI hSl hS fun s' acc' c' hm hS' hacc => ?_⟩
  refine ⟨rfl, ?_⟩
  rw [Moved.eq_with hm]
  refine hQ s'.heap s'.toks acc' c' (fun b o hb e => hm.heap b o (fun hmem => ?_) (Heap.get?_push_of_some _ e)) hacc hS'
  rcases List.mem_cons.mp hmem with e' | hmem
  · exact absurd (Heap.lt_size e) (by rw [e']; exact Nat.lt_irrefl _)
  · exact hb (List.mem_singleton.mp hmem)
end
section
variable {X : Cx}
/-- list(reversed(x)), x a tuple: a new list -/
def tLstRev (K : PySem.W.Frag) (te : TE) : TE := fun σ H Q => te σ H fun v H1 => ∃ (a : Addr) (xs : List V), v = .ref a ∧ SqT K H1 a xs ∧ ∀ q, H1 q = none → Q (.ref q) (upd H1 q (.lst xs.reverse))
theorem pe_lstRev (K : PySem.W.Frag) {e : Expr} {te : TE} {p p2 pos pos2 : Pos} (hc : X.calm = true) (hg : Gl X "list") (hm : X.mg "list" = none) (hg2 : Gl X "reversed") (hm2 : X.mg "reversed" = none) (he : PE X e te) (hK : X.K = K := by rfl)
    (hs : starEach [e] X.env = (false, eval e X.env) :: starEach [] X.env := by rfl)
    (hs2 : starEach [.Call (.Name "reversed" p2) [e] [] pos2] X.env = (false, eval (.Call (.Name "reversed" p2) [e] [] pos2) X.env) :: starEach [] X.env := by rfl) :
    PE X (.Call (.Name "list" p) [.Call (.Name "reversed" p2) [e] [] pos2] [] pos) (tLstRev K te) := by
  subst hK
  refine ⟨fun pins s σ H Q I h => ?_⟩
  refine Call_ (ld_blt I hg hm boot_list (PyProof.Rows.callWith_type1 (args_cons (Call_ (ld_blt I hg2 hm2 PyProof.Rows.boot_reversed (PyProof.Rows.callWith_type1 (args_cons (thn (he.run pins s σ H _ I h) fun u s1 ⟨v, H1, I1, r1, q1⟩ => args_nil ?_) hs) hs rfl))) hs2) hs2 rfl))
  obtain ⟨a, xs, ev, hq, q⟩ := q1
  subst ev
  obtain rfl : u = Value.ref a := r1
  obtain ⟨its, rv, p', hz⟩ := I1.tuple hq
  have hl := rv.length
  have hn := line63
  refine RT.call_reversed_tup p' (fun A E Q k => len_tuple p' (by simp only [List.size_toArray] <;> omega) k) (args_nil ?_)
  have k0 : ∀ b o, s1.heap.get? b = some o → (s1.heap.push (RT.rtObj a ((its.toArray.size : Int) - 1))).get? b = some o := fun b o e => Heap.get?_push_of_some _ e
  have I2 : Inv X pins σ H1 { s1 with heap := s1.heap.push (RT.rtObj a ((its.toArray.size : Int) - 1)), toks := s1.toks + 1 + 1 } := I1.kept (t' := s1.toks + 1 + 1) k0
  obtain ⟨f0, f1, f2, f3, f4, f5⟩ := I1.fpOk (H' := H1) (b := s1.heap.objs.size) (Nat.le_refl _) (I1.hok.fresh (Nat.le_refl _))
  obtain ⟨ol, hol, _⟩ := id p'
  have hne : a ≠ s1.heap.objs.size := Nat.ne_of_lt (Heap.lt_size hol)
  have hn : its.toArray.size ≤ sizeLine := by rw [List.size_toArray, ← rv.length]; exact hz
  refine call_list_rt (s := { s1 with heap := s1.heap.push (RT.rtObj a ((its.toArray.size : Int) - 1)), toks := s1.toks + 1 + 1 }) (I1.ok.hd hc) hne hn ⟨_, Heap.get?_push_size _ rfl, rfl, rfl⟩ (let ⟨o, ho, r⟩ := p'; ⟨o, Heap.get?_push_of_some _ ho, r⟩) fun h' tk acc c' hk hi hS => ?_
  have hS0 : (s1.heap.push (RT.rtObj a ((its.toArray.size : Int) - 1))).objs.size = s1.heap.objs.size + 1 := by simp [Heap.push]
  have I3 : Inv X pins σ (upd H1 (s1.heap.push (RT.rtObj a ((its.toArray.size : Int) - 1))).objs.size (.lst xs.reverse)) { s1 with heap := (s1.heap.push (RT.rtObj a ((its.toArray.size : Int) - 1))).push { cls := .type "list", dict := none, data := .seq acc c', slots := #[] }, toks := s1.toks + 1 + 1 } :=
    I2.laid (t' := s1.toks + 1 + 1) (fun b o e => Heap.get?_push_of_some _ e) (Nat.le_refl _) (show ObjOk X.prog X.w _ _ _ (.lst xs.reverse) from ⟨by rw [List.length_reverse]; exact hz, acc.toList, c', RT.vals_rev rv hi, by rw [Array.toArray_toList]; exact Heap.get?_push_size _ rfl⟩)
  have I4 : Inv X pins σ (upd H1 (s1.heap.push (RT.rtObj a ((its.toArray.size : Int) - 1))).objs.size (.lst xs.reverse)) { s1 with heap := h', toks := tk } := by
    refine Inv.turned (s := { s1 with heap := (s1.heap.push (RT.rtObj a ((its.toArray.size : Int) - 1))).push { cls := .type "list", dict := none, data := .seq acc c', slots := #[] }, toks := s1.toks + 1 + 1 }) (h' := h') (t' := tk) (it := s1.heap.objs.size) I3 (fun b o hb e => ?_) ?_ f1 f3 f4 f5
    · by_cases hbS : b = (s1.heap.push (RT.rtObj a ((its.toArray.size : Int) - 1))).objs.size
      · subst hbS
        have e2 := Heap.get?_push_size (h := s1.heap.push (RT.rtObj a ((its.toArray.size : Int) - 1))) (o := { cls := .type "list", dict := none, data := .seq acc c', slots := #[] }) rfl
        rw [e2] at e
        cases e
        exact hS
      · refine hk b o hb ?_
        rw [← Heap.get?_push_ne _ _ _ hbS]
        exact e
    · rw [upd_ne (by rw [hS0]; exact Nat.ne_of_lt (Nat.lt_succ_self _))]
      exact f0
  exact ⟨.ref _, _, I4, rfl, q _ (by
    have := I2.hok.fresh (a := (s1.heap.push (RT.rtObj a ((its.toArray.size : Int) - 1))).objs.size) (Nat.le_refl _)
    exact this)⟩
end
end Qx

/-! Lists of one's own that change. -/
namespace Dx
open PySem PySem.Spec PyProof.Rows L2 Evl Ex
section
variable {K : PySem.W.Frag}
/-! ### two lists of one's own that change -/
structure M2 (B0 H0 B H : Hp) (na wa : Addr) (xs ys : List V) : Prop where
  st : Step (fun _ => False) B0 H0 B H
  n0 : H0 na = none
  w0 : H0 wa = none
  ne : na ≠ wa
  bn : B na = none
  bw : B wa = none
  hn : H na = some (.lst xs)
  hw : H wa = some (.lst ys)
section
variable {B0 H0 B H B5 H5 : Hp} {na wa : Addr} {xs ys : List V}
theorem M2.ok (m : M2 B0 H0 B H na wa xs ys) : Ok Fm.pure B H := Ok.any m.st.bh
theorem M2.pass (m : M2 B0 H0 B H na wa xs ys) (s : Step (fun _ => False) B H B5 H5) : M2 B0 H0 B5 H5 na wa xs ys :=
  ⟨m.st.trans s, m.n0, m.w0, m.ne, s.sep na m.bn (by rw [m.hn]; exact fun z => nomatch z), s.sep wa m.bw (by rw [m.hw]; exact fun z => nomatch z), s.ex _ _ m.hn, s.ex _ _ m.hw⟩
theorem step_set {fa : Addr} {o : HO} (s : Step (fun _ => False) B0 H0 B H) (h0 : H0 fa = none) (hb : B fa = none) : Step (fun _ => False) B0 H0 B (upd H fa o) :=
  ⟨s.bb, fun a u h => by rw [upd_ne (ne_of_none h hb)]; exact s.bh _ _ h, fun a u n h => by rw [upd_ne (ne_of_none h h0)]; exact s.keep a u n h, s.sep, fun a n => by
    have ha : a ≠ fa := fun z => n (z ▸ h0)
    rw [upd_ne ha]
    exact s.live a n⟩
theorem M2.setN (m : M2 B0 H0 B H na wa xs ys) (zs : List V) : M2 B0 H0 B (upd H na (.lst zs)) na wa zs ys := ⟨step_set m.st m.n0 m.bn, m.n0, m.w0, m.ne, m.bn, m.bw, upd_same, by rw [upd_ne (Ne.symm m.ne)]; exact m.hw⟩
theorem M2.setW (m : M2 B0 H0 B H na wa xs ys) (zs : List V) : M2 B0 H0 B (upd H wa (.lst zs)) na wa xs zs := ⟨step_set m.st m.w0 m.bw, m.n0, m.w0, m.ne, m.bn, m.bw, by rw [upd_ne m.ne]; exact m.hn, upd_same⟩
/-- na as data at the end -/
theorem ddAll_snoc {Hx : Hp} : ∀ {ds : List PyData} {vs : List V} {d : PyData}, DdAll K Hx vs (ds ++ [d]) → ∃ vs' v, vs = vs' ++ [v] ∧ DdAll K Hx vs' ds ∧ Dd K Hx v d
  | [], _, _, h => by
    obtain ⟨v, rfl, hv⟩ := arg1 h
    exact ⟨[], v, rfl, .nil, hv⟩
  | x :: ds, _, _, h => by
    cases h with
    | cons a t =>
      obtain ⟨vs', v, rfl, h1, h2⟩ := ddAll_snoc t
      exact ⟨_ :: vs', v, rfl, .cons a h1, h2⟩
theorem qm_asg {σ : L2.St} {te : TE} {P0 : PV} {i : Nat} {tz : TS} {D : Ends} (m : M2 B0 H0 B H na wa xs ys) (h : EV Fm.pure te σ B P0) (k : ∀ v B5 H5, M2 B0 H0 B5 H5 na wa xs ys → Ex B B5 → P0 v B5 → tz D (σ.set i (some v)) H5) : tSeq (tAsg te (gName i)) tz D σ H := h B (Ex.refl B) H m.ok _ fun v B5 H5 s5 _ p => k v B5 H5 (m.pass s5) s5.bb p
theorem qm_appN {σ : L2.St} {te : TE} {d : PyData} {i : Nat} {tz : TS} {D : Ends} (m : M2 B0 H0 B H na wa xs ys) (hi : σ[i]? = some (some (.ref na))) (h : ED Fm.pure K te σ B d) (hl : xs.length < 16777216) (k : ∀ v B5 H5, M2 B0 H0 B5 H5 na wa (xs ++ [v]) ys → Ex B B5 → Dd K B5 v d → tz D σ H5) : tSeq (tDrop (tBM K "list" rAppend (tVar i) (tCons te tNil))) tz D σ H :=
  ⟨.ref na, hi, .inl ⟨rfl, _, sq_of m.hn⟩, h B (Ex.refl B) H m.ok _ fun v B5 H5 s5 _ p => ⟨na, xs, v, rfl, rfl, (m.pass s5).hn, by rw [sizeLine_eq]; exact hl, k v B5 _ ((m.pass s5).setN _) s5.bb p⟩⟩
theorem sm_appW {σ : L2.St} {te : TE} {d : PyData} {i : Nat} {D : Ends} (m : M2 B0 H0 B H na wa xs ys) (hi : σ[i]? = some (some (.ref wa))) (h : ED Fm.pure K te σ B d) (hl : ys.length < 16777216) (k : ∀ v B5 H5, M2 B0 H0 B5 H5 na wa xs (ys ++ [v]) → Ex B B5 → Dd K B5 v d → D.nx σ H5) : tDrop (tBM K "list" rAppend (tVar i) (tCons te tNil)) D σ H :=
  ⟨.ref wa, hi, .inl ⟨rfl, _, sq_of m.hw⟩, h B (Ex.refl B) H m.ok _ fun v B5 H5 s5 _ p => ⟨wa, ys, v, rfl, rfl, (m.pass s5).hw, by rw [sizeLine_eq]; exact hl, k v B5 _ ((m.pass s5).setW _) s5.bb p⟩⟩
theorem M2.data (m : M2 B0 H0 B H na wa xs ys) {ds : List PyData} (hd : DdAll K B xs ds) (hl : ds.length ≤ 16777216) : Step (fun _ => False) B0 H0 (upd B na (.lst xs)) H ∧ Dd K (upd B na (.lst xs)) (.ref na) (.list ds) := by
  refine ⟨⟨m.st.bb.trans (Ex.new m.bn), fun a o h => ?_, m.st.keep, fun a h n => ?_, m.st.live⟩, .lst upd_same (by rw [hd.len, sizeLine_eq]; exact hl) (hd.up (Ex.new m.bn))⟩
  · by_cases e : a = na
    · subst e
      rw [upd_same] at h
      rw [m.hn]
      exact h
    · rw [upd_ne e] at h
      exact m.st.bh a o h
  · have e : a ≠ na := fun z => n (z ▸ m.n0)
    rw [upd_ne e]
    exact m.st.sep a h n
end
section
variable {B0 H0 B H B5 H5 : Hp} {na wa : Addr} {xs ys : List V}
structure S1 (B0 H0 B H : Hp) (na : Addr) (xs : List V) : Prop where
  st : Step (fun _ => False) B0 H0 B H
  n0 : H0 na = none
  bn : B na = none
  hn : H na = some (.lst xs)
section
variable {B0 H0 B H B5 H5 : Hp} {na wa : Addr} {xs ys : List V}
theorem S1.ok (m : S1 B0 H0 B H na xs) : Ok Fm.pure B H := Ok.any m.st.bh
theorem S1.pass (m : S1 B0 H0 B H na xs) (s : Step (fun _ => False) B H B5 H5) : S1 B0 H0 B5 H5 na xs := ⟨m.st.trans s, m.n0, s.sep na m.bn (by rw [m.hn]; exact fun z => nomatch z), s.ex _ _ m.hn⟩
theorem S1.set (m : S1 B0 H0 B H na xs) (zs : List V) : S1 B0 H0 B (upd H na (.lst zs)) na zs := ⟨step_set m.st m.n0 m.bn, m.n0, m.bn, upd_same⟩
theorem S1.new (m : S1 B0 H0 B H na xs) (h : H wa = none) : M2 B0 H0 B (upd H wa (.lst [])) na wa xs [] := by
  have w0 : H0 wa = none := by
    cases hh : H0 wa with
    | none => rfl
    | some o => exact absurd h (m.st.live wa (by rw [hh]; exact fun z => nomatch z))
  have ne : na ≠ wa := fun z => by rw [← z, m.hn] at h; cases h
  exact ⟨step_set m.st w0 (fresh_back m.st.bh h), m.n0, w0, ne, m.bn, fresh_back m.st.bh h, by rw [upd_ne ne]; exact m.hn, upd_same⟩
theorem M2.shut (m : M2 B0 H0 B H na wa xs ys) {ds : List PyData} (hd : DdAll K B ys ds) (hl : ds.length ≤ 16777216) : S1 B0 H0 (upd B wa (.lst ys)) H na xs ∧ Dd K (upd B wa (.lst ys)) (.ref wa) (.list ds) ∧ Ex B (upd B wa (.lst ys)) := by
  have st : Step (fun _ => False) B0 H0 (upd B wa (.lst ys)) H := ⟨m.st.bb.trans (Ex.new m.bw), fun a o h => by
    by_cases e : a = wa
    · subst e
      rw [upd_same] at h
      rw [m.hw]
      exact h
    · rw [upd_ne e] at h
      exact m.st.bh a o h, m.st.keep, fun a h n => by
    have e : a ≠ wa := fun z => n (z ▸ m.w0)
    rw [upd_ne e]
    exact m.st.sep a h n, m.st.live⟩
  exact ⟨⟨st, m.n0, by rw [upd_ne m.ne]; exact m.bn, m.hn⟩, .lst upd_same (by rw [hd.len, sizeLine_eq]; exact hl) (hd.up (Ex.new m.bw)), Ex.new m.bw⟩
theorem S1.data (m : S1 B0 H0 B H na xs) {ds : List PyData} (hd : DdAll K B xs ds) (hl : ds.length ≤ 16777216) : Step (fun _ => False) B0 H0 (upd B na (.lst xs)) H ∧ Dd K (upd B na (.lst xs)) (.ref na) (.list ds) := by
  refine ⟨⟨m.st.bb.trans (Ex.new m.bn), fun a o h => ?_, m.st.keep, fun a h n => ?_, m.st.live⟩, .lst upd_same (by rw [hd.len, sizeLine_eq]; exact hl) (hd.up (Ex.new m.bn))⟩
  · by_cases e : a = na
    · subst e
      rw [upd_same] at h
      rw [m.hn]
      exact h
    · rw [upd_ne e] at h
      exact m.st.bh a o h
  · have e : a ≠ na := fun z => n (z ▸ m.n0)
    rw [upd_ne e]
    exact m.st.sep a h n
theorem qs_asg {σ : L2.St} {te : TE} {P0 : PV} {i : Nat} {tz : TS} {D : Ends} (m : S1 B0 H0 B H na xs) (h : EV Fm.pure te σ B P0) (k : ∀ v B5 H5, S1 B0 H0 B5 H5 na xs → Ex B B5 → P0 v B5 → tz D (σ.set i (some v)) H5) : tSeq (tAsg te (gName i)) tz D σ H := h B (Ex.refl B) H m.ok _ fun v B5 H5 s5 _ p => k v B5 H5 (m.pass s5) s5.bb p
theorem ss_app {σ : L2.St} {te : TE} {d : PyData} {i : Nat} {D : Ends} (m : S1 B0 H0 B H na xs) (hi : σ[i]? = some (some (.ref na))) (h : ED Fm.pure K te σ B d) (hl : xs.length < 16777216) (k : ∀ v B5 H5, S1 B0 H0 B5 H5 na (xs ++ [v]) → Ex B B5 → Dd K B5 v d → D.nx σ H5) : tDrop (tBM K "list" rAppend (tVar i) (tCons te tNil)) D σ H :=
  ⟨.ref na, hi, .inl ⟨rfl, _, sq_of m.hn⟩, h B (Ex.refl B) H m.ok _ fun v B5 H5 s5 _ p => ⟨na, xs, v, rfl, rfl, (m.pass s5).hn, by rw [sizeLine_eq]; exact hl, k v B5 _ ((m.pass s5).set _) s5.bb p⟩⟩
end

theorem ddAll_strs {H : Hp} : ∀ {S : List Str}, (∀ s ∈ S, s.length ≤ 100) → DdAll K H (S.map V.str) (S.map .str)
  | [], _ => .nil
  | s :: S, h => .cons (.str s (by rw [sizeLine_eq]; have := h s List.mem_cons_self; omega)) (ddAll_strs fun x hx => h x (List.mem_cons_of_mem _ hx))
theorem strs_dd {H : Hp} : ∀ {S : List Str} {vs : List V}, DdAll K H vs (S.map .str) → vs = S.map V.str
  | [], _, h => by cases h; rfl
  | s :: S, _, h => by
    cases h with
    | cons a t =>
      rw [(dd_str a).1, strs_dd t]
      rfl
section
variable {B0 H0 B H B5 H5 : Hp} {na wa : Addr} {xs ys : List V} {σ : L2.St} {te : TE} {tas : TA} {ds : List PyData} {d : PyData} {i : Nat} {tz : TS} {D : Ends}
/-- x = [] -/
theorem qs_new (k0 : Ok Fm.pure B H) (k : ∀ na, S1 B H B (upd H na (.lst [])) na [] → tz D (σ.set i (some (.ref na))) (upd H na (.lst []))) : tSeq (tAsg (tLst tNil) (gName i)) tz D σ H :=
  ⟨Nat.zero_le _, fun na hna => k na ⟨step_set (Step.refl k0.e) hna (fresh_back k0.e hna), hna, fresh_back k0.e hna, upd_same⟩⟩
theorem S1.newL (m : S1 B0 H0 B H na xs) (zs : List V) (h : H wa = none) : M2 B0 H0 B (upd H wa (.lst zs)) na wa xs zs := by
  have w0 : H0 wa = none := by
    cases hh : H0 wa with
    | none => rfl
    | some o => exact absurd h (m.st.live wa (by rw [hh]; exact fun z => nomatch z))
  have ne : na ≠ wa := fun z => by rw [← z, m.hn] at h; cases h
  exact ⟨step_set m.st w0 (fresh_back m.st.bh h), m.n0, w0, ne, m.bn, fresh_back m.st.bh h, by rw [upd_ne ne]; exact m.hn, upd_same⟩
/-- x = [..] -/
theorem qs_lst (m : S1 B0 H0 B H na xs) (h : EDs Fm.pure K tas σ B ds) (hl : ds.length ≤ 16777216) (k : ∀ wa vs B5 H5, M2 B0 H0 B5 H5 na wa xs vs → DdAll K B5 vs ds → Ex B B5 → tz D (σ.set i (some (.ref wa))) H5) : tSeq (tAsg (tLst tas) (gName i)) tz D σ H :=
  h B (Ex.refl B) H m.ok _ fun vs B5 H5 s5 _ p => ⟨by rw [DdAll.len p, sizeLine_eq]; exact hl, fun wa hwa => k wa vs B5 _ ((m.pass s5).newL vs hwa) p s5.bb⟩
/-- x = waiting.pop() -/
theorem qm_pop {y : V} (m : M2 B0 H0 B H na wa xs (ys ++ [y])) {j : Nat} (hi : σ[j]? = some (some (.ref wa))) (k : M2 B0 H0 B (upd H wa (.lst ys)) na wa xs ys → tz D (σ.set i (some y)) (upd H wa (.lst ys))) : tSeq (tAsg (tBM0 K "list" rPop (tVar j)) (gName i)) tz D σ H := by
  refine ⟨.ref wa, hi, .inl ⟨rfl, _, sq_of m.hw⟩, wa, _, y, rfl, rfl, m.hw, by rw [List.length_append]; simp, ?_⟩
  rw [List.dropLast_concat]
  exact k (m.setW ys)
/-- waiting.extend(a tuple) -/
theorem sm_extT (m : M2 B0 H0 B H na wa xs ys) (hi : σ[i]? = some (some (.ref wa))) (h : ED Fm.pure K te σ B (.tuple ds)) (hl : ys.length + ds.length ≤ 16777216) (k : ∀ vs B5 H5, M2 B0 H0 B5 H5 na wa xs (ys ++ vs) → Ex B B5 → DdAll K B5 vs ds → D.nx σ H5) : tDrop (tBM K "list" (Qx.rExtendT K) (tVar i) (tCons te tNil)) D σ H :=
  ⟨.ref wa, hi, .inl ⟨rfl, _, sq_of m.hw⟩, h B (Ex.refl B) H m.ok _ fun v B5 H5 s5 _ p => by
    obtain ⟨b, zs, rfl, h1, _, g⟩ := dd_tup p
    have m5 := m.pass s5
    exact ⟨wa, b, ys, zs, rfl, rfl, m5.hw, ex_t m5.st.bh h1, by rw [g.len, sizeLine_eq]; exact hl, k zs B5 _ (m5.setW _) s5.bb g⟩⟩
/-- waiting.extend(a list) -/
theorem sm_extL (m : M2 B0 H0 B H na wa xs ys) (hi : σ[i]? = some (some (.ref wa))) (h : ED Fm.pure K te σ B (.list ds)) (hl : ys.length + ds.length ≤ 16777216) (k : ∀ vs B5 H5, M2 B0 H0 B5 H5 na wa xs (ys ++ vs) → Ex B B5 → DdAll K B5 vs ds → D.nx σ H5) : tDrop (tBM K "list" rExtend (tVar i) (tCons te tNil)) D σ H :=
  ⟨.ref wa, hi, .inl ⟨rfl, _, sq_of m.hw⟩, h B (Ex.refl B) H m.ok _ fun v B5 H5 s5 _ p => by
    obtain ⟨b, zs, rfl, h1, _, g⟩ := dd_lst p
    have m5 := m.pass s5
    exact ⟨wa, b, ys, zs, rfl, rfl, m5.hw, m5.st.bh _ _ h1, by rw [g.len, sizeLine_eq]; exact hl, k zs B5 _ (m5.setW _) s5.bb g⟩⟩
end
section
variable {F : Fm} {B : Hp} {σ : L2.St} {te : TE} {ds : List PyData} {S : List Str} {k : Str}
theorem ed_lstRev (h : ED F K te σ B (.tuple ds)) : ED F K (Qx.tLstRev K te) σ B (.list ds.reverse) := fun B1 e0 H j Q q => h B1 e0 H j _ fun v B2 H2 s2 j2 g => by
  obtain ⟨a, xs, rfl, h1, l1, g1⟩ := dd_tup g
  refine ⟨a, xs, rfl, ex_t j2.e h1, fun p hp => q _ _ _ (s2.trans (Step.alloc j2.e hp)) (j2.alloc hp) (.lst upd_same (by rw [List.length_reverse]; exact l1) (g1.rev.up (Ex.new (fresh_back j2.e hp))))⟩
theorem ed_cntS (h : ED F K te σ B (.list (S.map .str))) : ED F K (tBM K "list" (Qx.rCntS K) te (tCons (tC (.str k)) tNil)) σ B (.int (S.count k : Nat)) := fun B1 e0 H j Q q => h B1 e0 H j _ fun v B2 H2 s2 j2 g => by
  obtain ⟨a, xs, rfl, h1, l1, g1⟩ := dd_lst g
  obtain rfl := strs_dd g1
  have h2 := j2.e _ _ h1
  exact ⟨.inl ⟨rfl, _, sq_of h2⟩, a, S, k, rfl, rfl, sq_of h2, q _ B2 H2 s2 j2 (.int _)⟩
theorem rc_lstT' {F : Fm} {B : Hp} {ds : List PyData} : RDc F K (fun xs H Q => ∃ p ys, xs = [.ref p] ∧ (SqL K H p ys ∨ SqT K H p ys) ∧ ∀ l, H l = none → Q (.ref l) (upd H l (.lst ys))) B [.tuple ds] (.list ds) := fun B1 e0 H us jj hu Q q => by
  obtain ⟨v, rfl, hv⟩ := arg1 hu
  obtain ⟨a, xs, rfl, h1, l1, g1⟩ := dd_tup hv
  exact ⟨a, xs, rfl, .inr (ex_t jj.e h1), fun l hl => q _ _ _ (Step.alloc jj.e hl) (jj.alloc hl) (.lst upd_same l1 (g1.up (Ex.new (fresh_back jj.e hl))))⟩
end
end
section
variable {B0 H0 B H B5 H5 : Hp} {na : Addr} {xs : List V} {σ : L2.St} {te tl : TE} {t : TT} {tu tw tz tb : TS} {b : Bool} {P : PV} {i j : Nat} {D : Ends} {ds : List PyData}
theorem ss_if (m : S1 B0 H0 B H na xs) (h : ETt Fm.pure t σ B b) (h1 : b = true → ∀ B5 H5, S1 B0 H0 B5 H5 na xs → Ex B B5 → tu D σ H5) (h2 : b = false → ∀ B5 H5, S1 B0 H0 B5 H5 na xs → Ex B B5 → tw D σ H5) : tIfS t tu tw D σ H := h B (Ex.refl B) H m.ok _ fun B5 H5 s5 _ => by
  cases b with
  | true =>
    show tu D σ H5
    exact h1 rfl B5 H5 (m.pass s5) s5.bb
  | false =>
    show tw D σ H5
    exact h2 rfl B5 H5 (m.pass s5) s5.bb
theorem qs_when (m : S1 B0 H0 B H na xs) (h : ETt Fm.pure t σ B b) (h1 : b = true → ∀ B5 H5, S1 B0 H0 B5 H5 na xs → Ex B B5 → tu { D with nx := tz D } σ H5) (h2 : b = false → ∀ B5 H5, S1 B0 H0 B5 H5 na xs → Ex B B5 → tz D σ H5) : tSeq (tIfS t tu tNext) tz D σ H := ss_if (D := { D with nx := tz D }) m h h1 h2
theorem ss_ret (m : S1 B0 H0 B H na xs) (h : EV Fm.pure te σ B P) (k : ∀ v B5 H5, S1 B0 H0 B5 H5 na xs → Ex B B5 → P v B5 → D.rt v H5) : tRet te D σ H := h B (Ex.refl B) H m.ok _ fun v B5 H5 s5 _ p => k v B5 H5 (m.pass s5) s5.bb p
theorem qs_pop {y : V} {ys : List V} (m : S1 B0 H0 B H na (ys ++ [y])) (hi : σ[j]? = some (some (.ref na))) (k : S1 B0 H0 B (upd H na (.lst ys)) na ys → tz D (σ.set i (some y)) (upd H na (.lst ys))) : tSeq (tAsg (tBM0 K "list" rPop (tVar j)) (gName i)) tz D σ H := by
  refine ⟨.ref na, hi, .inl ⟨rfl, _, sq_of m.hn⟩, na, _, y, rfl, rfl, m.hn, by rw [List.length_append]; simp, ?_⟩
  rw [List.dropLast_concat]
  exact k (m.set ys)
/-- x = x + a list: another list -/
theorem ss_add (m : S1 B0 H0 B H na xs) (hi : σ[i]? = some (some (.ref na))) (h : ED Fm.pure K te σ B (.list ds)) (hl : xs.length + ds.length ≤ 16777216) (k : ∀ na' us B5 H5, S1 B0 H0 B5 H5 na' (xs ++ us) → Ex B B5 → DdAll K B5 us ds → D.nx (σ.set i (some (.ref na'))) H5) : tAsg (tOp (rAddA K) (tVar i) te) (gName i) D σ H := by
  refine ⟨.ref na, hi, h B (Ex.refl B) H m.ok _ fun v B5 H5 s5 j5 g => ?_⟩
  obtain ⟨b, us, rfl, h1, _, g1⟩ := dd_lst g
  have m5 := m.pass s5
  refine .inr (.inr (.inl ⟨na, b, xs, us, rfl, rfl, m5.hn, m5.st.bh _ _ h1, by rw [g1.len, sizeLine_eq]; exact hl, fun p hp => ?_⟩))
  have p0 : H0 p = none := by
    cases hh : H0 p with
    | none => rfl
    | some o => exact absurd hp (m5.st.live p (by rw [hh]; exact fun z => nomatch z))
  exact k p us B5 _ ⟨step_set m5.st p0 (fresh_back m5.st.bh hp), p0, fresh_back m5.st.bh hp, upd_same⟩ s5.bb g1
/-- for x, y in pairs -/
theorem q_forP (ok : Ok Fm.pure B H) (h : EV Fm.pure tl σ B (SqV K (DDs K ds))) (hp : ∀ d ∈ ds, ∃ x y, d = .tuple [x, y]) (J : Nat → L2.St → Hp → Hp → Prop) (hj : ∀ i σ B H, J i σ B H → Ex B H) (h0 : ∀ B1 H1, Step (fun _ => False) B H B1 H1 → J 0 σ B1 H1)
    (hs : ∀ Bb n x y u v σ' B1 H1, ds[n]? = some (.tuple [x, y]) → Ex B Bb → Ex Bb B1 → Dd K B1 u x → Dd K B1 v y → J n σ' B1 H1 → tb { D with nx := fun σ2 H2 => ∃ B2, Ex Bb B2 ∧ J (n + 1) σ2 B2 H2, ct := fun σ2 H2 => ∃ B2, Ex Bb B2 ∧ J (n + 1) σ2 B2 H2, bk := tz D } ((σ'.set i (some u)).set j (some v)) H1)
    (hd : ∀ σ' B1 H1, Ex B B1 → J ds.length σ' B1 H1 → tz D σ' H1) : tSeq (tFor (iSeq K tl) (g2 K i j) tb) tz D σ H := by
  refine h B (Ex.refl B) H ok _ fun v B1 H1 s1 j1 pv => ?_
  obtain ⟨l, vs, rfl, hl, ps⟩ := pv
  have ps' : DdAll K B1 vs ds := ps
  have turn : ∀ n x σ' H', vs[n]? = some x → (∃ B2, Ex B1 B2 ∧ J n σ' B2 H') → g2 K i j x σ' H' fun σ2 H2 => tb { D with nx := fun σ2 H2 => ∃ B2, Ex B1 B2 ∧ J (n + 1) σ2 B2 H2, ct := fun σ2 H2 => ∃ B2, Ex B1 B2 ∧ J (n + 1) σ2 B2 H2, bk := tz D } σ2 H2 := by
    rintro n x σ' H' hx ⟨B2, e2, q⟩
    obtain ⟨d, hd, hdv⟩ := ps'.getv hx
    obtain ⟨a, c, rfl⟩ := hp d (List.mem_of_getElem? hd)
    obtain ⟨t, us, rfl, h1, _, hus⟩ := dd_tup hdv
    obtain ⟨u, w, rfl, hu, hw⟩ := arg2 hus
    refine ⟨t, _, rfl, ex_t (e2.trans (hj _ _ _ _ q)) h1, rfl, u, _, rfl, w, _, rfl, rfl, ?_⟩
    exact hs B1 n a c u w σ' B2 H' hd s1.bb e2 (hu.up e2) (hw.up e2) q
  have fin : ∀ σ' H', (∃ B2, Ex B1 B2 ∧ J vs.length σ' B2 H') → tz D σ' H' := fun σ' H' ⟨B2, e2, q⟩ => hd σ' B2 H' (s1.bb.trans e2) (by rw [← ps'.len]; exact q)
  refine ⟨l, rfl, ?_⟩
  rcases hl with hl | hl
  · refine .inl ⟨⟨vs, ex_l j1.e hl⟩, for_list (K := K) (xs := vs) (fun n σ' H' => ∃ B2, Ex B1 B2 ∧ J n σ' B2 H') ⟨B1, Ex.refl B1, h0 B1 H1 s1⟩ (fun n σ' H' _ ⟨B2, e, q⟩ => ex_l (hj _ _ _ _ q) (ex_l e hl)) turn fin⟩
  · refine .inr ⟨⟨vs, ex_t j1.e hl⟩, for_tup (K := K) (xs := vs) (fun n σ' H' => ∃ B2, Ex B1 B2 ∧ J n σ' B2 H') ⟨B1, Ex.refl B1, h0 B1 H1 s1⟩ (fun n σ' H' _ ⟨B2, e, q⟩ => ex_t (hj _ _ _ _ q) (ex_t e hl)) turn fin⟩
end
end
end Dx

/-! k20: the data that the defs speak of. -/
namespace K20
open PySem PySem.Spec PyProof.Rows L2 Evl Ex Dx
open PySem.PyData (strOk)
/-! ### data of limited depth -/
def Sm (n : Nat) (d : PyData) : Prop := d.canLay0 = true ∧ d.depth ≤ n
theorem Sm.sh {n : Nat} {d : PyData} (h : Sm n d) (hn : n ≤ 64 := by decide) : SeqAt.shaped d = true := by
  unfold SeqAt.shaped
  rw [h.1, Bool.true_and, decide_eq_true_eq]
  exact Nat.le_trans h.2 hn
theorem Sm.le {n m : Nat} {d : PyData} (h : Sm n d) (hn : n ≤ m) : Sm m d := ⟨h.1, Nat.le_trans h.2 hn⟩
theorem layAll_of : ∀ {ds : List PyData}, (∀ d ∈ ds, d.canLay0 = true) → PyData.canLayAll0 ds = true
  | [], _ => by simp [PyData.canLayAll0]
  | d :: ds, h => by
    simp only [PyData.canLayAll0]
    rw [h d List.mem_cons_self, layAll_of fun x hx => h x (List.mem_cons_of_mem _ hx)]
    rfl
theorem layAll_mem : ∀ {ds : List PyData} {d : PyData}, PyData.canLayAll0 ds = true → d ∈ ds → d.canLay0 = true
  | x :: ds, d, h, hm => by
    have h' : x.canLay0 = true ∧ PyData.canLayAll0 ds = true := by simpa [PyData.canLayAll0] using h
    rcases List.mem_cons.mp hm with rfl | hm
    · exact h'.1
    · exact layAll_mem h'.2 hm
theorem depthAll_of {n : Nat} : ∀ {ds : List PyData}, (∀ d ∈ ds, d.depth ≤ n) → PyData.depthAll ds ≤ n
  | [], _ => by simp [PyData.depthAll]
  | d :: ds, h => by
    simp only [PyData.depthAll]
    exact Nat.max_le.mpr ⟨h d List.mem_cons_self, depthAll_of fun x hx => h x (List.mem_cons_of_mem _ hx)⟩
theorem depthAll_mem : ∀ {ds : List PyData} {d : PyData}, d ∈ ds → d.depth ≤ PyData.depthAll ds
  | x :: ds, d, hm => by
    simp only [PyData.depthAll]
    rcases List.mem_cons.mp hm with rfl | hm
    · exact Nat.le_max_left _ _
    · exact Nat.le_trans (depthAll_mem hm) (Nat.le_max_right _ _)
theorem sm_tup {n : Nat} {ds : List PyData} (h : ∀ d ∈ ds, Sm n d) : Sm (n + 1) (.tuple ds) := ⟨by
  simp only [PyData.canLay0]
  exact layAll_of fun d hd => (h d hd).1, by
  simp only [PyData.depth]
  exact Nat.succ_le_succ (depthAll_of fun d hd => (h d hd).2)⟩
theorem sm_lst {n : Nat} {ds : List PyData} (h : ∀ d ∈ ds, Sm n d) : Sm (n + 1) (.list ds) := ⟨by
  simp only [PyData.canLay0]
  exact layAll_of fun d hd => (h d hd).1, by
  simp only [PyData.depth]
  exact Nat.succ_le_succ (depthAll_of fun d hd => (h d hd).2)⟩
theorem Sm.memT {n : Nat} {ds : List PyData} (h : Sm n (.tuple ds)) {d : PyData} (hd : d ∈ ds) : Sm (n - 1) d := ⟨layAll_mem (by simpa [PyData.canLay0] using h.1) hd, by
  have h1 : PyData.depthAll ds + 1 ≤ n := by simpa [PyData.depth] using h.2
  have h2 := depthAll_mem hd
  omega⟩
theorem Sm.memL {n : Nat} {ds : List PyData} (h : Sm n (.list ds)) {d : PyData} (hd : d ∈ ds) : Sm (n - 1) d := ⟨layAll_mem (by simpa [PyData.canLay0] using h.1) hd, by
  have h1 : PyData.depthAll ds + 1 ≤ n := by simpa [PyData.depth] using h.2
  have h2 := depthAll_mem hd
  omega⟩
theorem sm_int {n : Nat} {i : Int} : Sm (n + 1) (.int i) := ⟨by simp [PyData.canLay0], by simp [PyData.depth]⟩
theorem sm_bool {n : Nat} {b : Bool} : Sm (n + 1) (.bool b) := ⟨by simp [PyData.canLay0], by simp [PyData.depth]⟩
theorem sm_none {n : Nat} : Sm (n + 1) .none := ⟨by simp [PyData.canLay0], by simp [PyData.depth]⟩
theorem sm_str {n : Nat} {s : Str} (h : strOk s = true) : Sm (n + 1) (.str s) := ⟨by simpa [PyData.canLay0] using h, by simp [PyData.depth]⟩
theorem Sm.str {n : Nat} {s : Str} (h : Sm n (.str s)) : strOk s = true := by simpa [PyData.canLay0] using h.1
theorem sgn_ok {s : Str} (h : strOk s = true) {c : Nat} (hc : c ∈ s.cps.toList) : strOk (sgn c) = true := by
  unfold strOk at h ⊢
  have h1 := Array.all_eq_true_iff_forall_mem.mp h c (Array.mem_toList_iff.mp hc)
  simpa [sgn] using h1
theorem sm_filter {n : Nat} {ds : List PyData} {p : PyData → Bool} (h : ∀ d ∈ ds, Sm n d) : Sm (n + 1) (.list ((ds.filter p).map fun d => d)) := sm_lst fun d hd => by
  rw [List.map_id'] at hd
  exact h d ((List.mem_filter.mp hd).1)
theorem eqv_nil : ∀ ds : List PyData, PyData.eqv (.list ds) (.list []) = ds.isEmpty
  | [] => by simp [PyData.eqv, PyData.eqvAll]
  | d :: ds => by simp [PyData.eqv, PyData.eqvAll]
theorem eqv_int (a b : Int) : PyData.eqv (.int a) (.int b) = (a == b) := by simp [PyData.eqv]
theorem eqv_str (a b : Str) : PyData.eqv (.str a) (.str b) = (a == b) := by simp [PyData.eqv]
theorem filter_emp {α : Type} (p : α → Bool) : ∀ l : List α, (l.filter p).isEmpty = l.all fun x => !p x
  | [] => rfl
  | x :: l => by
    rw [List.filter_cons, List.all_cons]
    by_cases h : p x = true
    · rw [if_pos h, h]
      rfl
    · rw [if_neg h, filter_emp p l]
      simp [h]
theorem mapb {α : Type} (l : List α) (f : α → Bool) : (l.filter fun _ => true).map (fun c => PyData.bool (f c)) = (l.map f).map PyData.bool := by
  rw [List.filter_eq_self.mpr (fun _ _ => rfl), List.map_map]
  rfl
theorem all_id {α : Type} (l : List α) (f : α → Bool) : (l.map f).all id = l.all f := by rw [List.all_map]; rfl
/-! ### words, rules -/
def loS (c : Nat) : Bool := decide ((sgn c).cps.toList < (("a" : Str)).cps.toList)
def hiS (c : Nat) : Bool := decide ((("z" : Str)).cps.toList < (sgn c).cps.toList)
def wordD : PyData → Bool
  | .str s => (decide ((1 : Int) ≤ (s.length : Nat)) && decide (((s.length : Nat) : Int) ≤ 3)) && s.cps.toList.all fun c => !loS c && !hiS c
  | _ => false
theorem wordD_str (s : Str) : wordD (.str s) = ((decide ((1 : Int) ≤ (s.length : Nat)) && decide (((s.length : Nat) : Int) ≤ 3)) && s.cps.toList.all fun c => !loS c && !hiS c) := rfl
abbrev WSH : List Str := ["left", "right"]
abbrev OSH : List Str := ["same", "first", "last"]
abbrev TSH : List Str := ["wrap", "ahead", "behind"]
def inS (s : Str) (L : List Str) : Bool := L.any fun x => x == s
theorem inD_str (s : Str) (L : List Str) : inD (.str s) (L.map .str) = inS s L := by
  unfold inD inS
  rw [List.any_map]
  exact congrArg (fun f => L.any f) (funext fun x => eqv_str x s)
/-- the last parts of a rule whose first part and shape are right -/
def tailD (s : Str) (ps : List PyData) (n : Int) : Bool :=
  if inS s WSH then decide (ps.length = 1) && wordD (ps.getD 0 .none)
  else if inS s OSH then decide (ps.length = 1) && inB (ps.getD 0 .none) 0 (n - 1)
  else inS s TSH && (decide (ps.length = 2) && ps.all fun d => inB d 0 (n - 1))
def ruleD (d : PyData) (n : Int) : Bool := match d with
  | .tuple (a :: .str s :: p :: ps) => inB a 0 (n - 1) && tailD s (p :: ps) n
  | _ => false
def rulesD (d : PyData) (n : Int) : Bool := match d with
  | .tuple rs => (decide ((1 : Int) ≤ (rs.length : Nat)) && decide (((rs.length : Nat) : Int) ≤ 90)) && rs.all fun r => ruleD r n
  | _ => false
theorem rulesD_tup (rs : List PyData) (n : Int) : rulesD (.tuple rs) n = ((decide ((1 : Int) ≤ (rs.length : Nat)) && decide (((rs.length : Nat) : Int) ≤ 90)) && rs.all fun r => ruleD r n) := rfl
/-- a valid rule, in full -/
theorem ruleD_is {d : PyData} {n : Int} (h : ruleD d n = true) : ∃ (a : Int) (s : Str) (p : PyData) (ps : List PyData), d = .tuple (.int a :: .str s :: p :: ps) ∧ 0 ≤ a ∧ a < n ∧ tailD s (p :: ps) n = true := by
  unfold ruleD at h
  split at h
  · rename_i a s p ps
    rw [Bool.and_eq_true] at h
    obtain ⟨h1, h2⟩ := h
    cases a with
    | int i =>
      unfold inB at h1
      simp only [Bool.and_eq_true, decide_eq_true_eq] at h1
      exact ⟨i, s, p, ps, rfl, h1.1, by omega, h2⟩
    | _ => cases h1
  · cases h
theorem tailD_one {s : Str} {p : PyData} {ps : List PyData} {n : Int} (h : tailD s (p :: ps) n = true) (ho : inS s OSH = true) : ps = [] ∧ ∃ c : Int, p = .int c ∧ 0 ≤ c ∧ c < n := by
  unfold tailD at h
  have hw : inS s WSH = false := by
    unfold inS at ho ⊢
    simp only [List.any_cons, List.any_nil, Bool.or_false, Bool.or_eq_true, beq_iff_eq] at ho
    rcases ho with rfl | rfl | rfl <;> decide +kernel
  rw [hw, if_neg (by decide), if_pos ho, Bool.and_eq_true, decide_eq_true_eq] at h
  obtain ⟨h1, h2⟩ := h
  have e : ps = [] := by
    cases ps with
    | nil => rfl
    | cons _ _ => simp at h1
  subst e
  have h3 : inB p 0 (n - 1) = true := h2
  cases p with
  | int i =>
    unfold inB at h3
    simp only [Bool.and_eq_true, decide_eq_true_eq] at h3
    exact ⟨rfl, i, rfl, h3.1, by omega⟩
  | _ => cases h3
/-! ### steps -/
def isOne (d : PyData) : Bool := match d with
  | .tuple (_ :: .str s :: _) => inS s OSH
  | _ => false
def edge (d : PyData) : Int × Int := match d with
  | .tuple [.int a, _, .int c] => (a, c)
  | _ => (0, 0)
def edges (rs : List PyData) : List (Int × Int) := (rs.filter isOne).map edge
theorem one_is {d : PyData} {n : Int} (h : ruleD d n = true) (ho : isOne d = true) : ∃ (a : Int) (s : Str) (c : Int), d = .tuple [.int a, .str s, .int c] ∧ 0 ≤ a ∧ a < n ∧ 0 ≤ c ∧ c < n ∧ inS s OSH = true := by
  obtain ⟨a, s, p, ps, rfl, h1, h2, h3⟩ := ruleD_is h
  obtain ⟨rfl, c, rfl, h4, h5⟩ := tailD_one h3 ho
  exact ⟨a, s, c, rfl, h1, h2, h4, h5, ho⟩
theorem edges_in {rs : List PyData} {n : Int} (h : ∀ r ∈ rs, ruleD r n = true) (a b : Int) (hm : (a, b) ∈ edges rs) : 0 ≤ a ∧ a < n ∧ 0 ≤ b ∧ b < n := by
  obtain ⟨r, hr, he⟩ := List.mem_map.mp hm
  obtain ⟨h1, h2⟩ := List.mem_filter.mp hr
  obtain ⟨a', s, c, rfl, g1, g2, g3, g4, _⟩ := one_is (h r h1) h2
  cases he
  exact ⟨g1, g2, g3, g4⟩
theorem edges_len (rs : List PyData) : (edges rs).length ≤ rs.length := by
  unfold edges
  rw [List.length_map]
  exact List.length_filter_le _ _
def toD (p : Int × Int) : PyData := .tuple [.int p.1, .int p.2]
def optD : Option Int → PyData
  | some k => .int k
  | none => .none
/-- the least kind that comes back to itself -/
def backK (E : List (Int × Int)) (n : Nat) : Option Int := ((List.range n).find? fun (k : Nat) => (Gm.turns E (k : Int) (n + 1)).contains (k : Int)).map fun k => (k : Int)
theorem backK_bk {E : List (Int × Int)} {n : Nat} (hE : ∀ a b, (a, b) ∈ E → 0 ≤ b ∧ b < (n : Int)) : Gm.BK E n (backK E n) := by
  have key : ∀ k : Nat, (Gm.turns E (k : Int) (n + 1)).contains (k : Int) = true ↔ Gm.Rch E k k := fun k => by
    rw [List.contains_iff_mem]
    exact Gm.turns_all hE k
  unfold backK
  cases h : (List.range n).find? fun (k : Nat) => (Gm.turns E (k : Int) (n + 1)).contains (k : Int) with
  | none =>
    refine .none fun j h0 h1 r => ?_
    have h2 := List.find?_eq_none.mp h j.toNat (List.mem_range.mpr (by omega))
    have e : ((j.toNat : Nat) : Int) = j := by omega
    refine h2 ((key _).mpr ?_)
    rw [e]
    exact r
  | some k =>
    have h1 := List.find?_some h
    have hlt : k < n := List.mem_range.mp (List.mem_of_find?_eq_some h)
    refine .some (k : Int) (by omega) (by omega) ((key k).mp h1) fun j h0 h2 r => ?_
    have e : ((j.toNat : Nat) : Int) = j := by omega
    have hj : j.toNat < k := by omega
    rw [List.find?_range_eq_some] at h
    have h3 := h.2.2 j.toNat hj
    rw [Bool.not_eq_true', ← Bool.not_eq_true] at h3
    refine h3 ((key _).mpr ?_)
    rw [e]
    exact r
/-- what Pairs(kinds, rules) tells -/
def dueD (k r : PyData) : PyData := match k with
  | .int n => if 1 ≤ n ∧ n ≤ 40 then (if rulesD r n = true then (match r with
      | .tuple rs => (match backK (edges rs) n.toNat with | none => .tuple [.str "kept", .int n, r] | some b => .tuple [.str "endless", .int b])
      | _ => .none) else .tuple [.str "rules", r]) else .tuple [.str "number", k]
  | _ => .tuple [.str "number", k]
/-! ### knots -/
def isS (d : PyData) (s : Str) : Bool := match d with
  | .str x => x == s
  | _ => false
theorem eqv_isS (d : PyData) (s : Str) : PyData.eqv d (.str s) = isS d s := by
  cases d <;> simp [PyData.eqv, isS]
def hdD (d : PyData) : PyData := match d with
  | .tuple (x :: _) => x
  | _ => .none
def kidsD (d : PyData) : List PyData := match d with
  | .tuple [.str s, .tuple ks] => if s == ("plain" : Str) then ks else []
  | .tuple [.str s, _, .tuple ks] => if s == ("graft" : Str) then ks else []
  | _ => []
/-- what stands behind the shape -/
def bgT (s : Str) (ps : List PyData) (n : Int) : Bool :=
  if s == ("foot" : Str) then decide (ps.length = 0)
  else if s == ("word" : Str) then decide (ps.length = 1) && wordD (ps.getD 0 .none)
  else if s == ("plain" : Str) then decide (ps.length = 1) && isTupD (ps.getD 0 .none)
  else if s == ("graft" : Str) then decide (ps.length = 2) && (inB (ps.getD 0 .none) 0 (n - 1) && isTupD (ps.getD 1 .none))
  else false
def bgK (d : PyData) (n : Int) : Bool := match d with
  | .tuple (.str s :: ps) => bgT s ps n
  | _ => false
/-- the four shapes of a knot -/
inductive Kn (n : Int) : PyData → Prop
  | foot : Kn n (.tuple [.str "foot"])
  | word (w : PyData) : wordD w = true → Kn n (.tuple [.str "word", w])
  | plain (ks : List PyData) : Kn n (.tuple [.str "plain", .tuple ks])
  | graft (k : Int) (ks : List PyData) : 0 ≤ k → k < n → Kn n (.tuple [.str "graft", .int k, .tuple ks])
theorem isTup_is {d : PyData} (h : isTupD d = true) : ∃ ks, d = .tuple ks := by
  cases d with
  | tuple ks => exact ⟨ks, rfl⟩
  | _ => cases h
theorem bgK_kn {d : PyData} {n : Int} (h : bgK d n = true) : Kn n d := by
  unfold bgK at h
  split at h
  · rename_i s ps
    unfold bgT at h
    split at h
    · rename_i hs
      obtain rfl := beq_iff_eq.mp hs
      have h' : ps = [] := List.length_eq_zero_iff.mp (of_decide_eq_true h)
      subst h'
      exact .foot
    split at h
    · rename_i hs
      obtain rfl := beq_iff_eq.mp hs
      rw [Bool.and_eq_true, decide_eq_true_eq] at h
      rcases ps with _ | ⟨x, _ | ⟨y, ps⟩⟩ <;> first | (exfalso; have := h.1; simp at this; done) | skip
      exact .word x h.2
    split at h
    · rename_i hs
      obtain rfl := beq_iff_eq.mp hs
      rw [Bool.and_eq_true, decide_eq_true_eq] at h
      rcases ps with _ | ⟨x, _ | ⟨y, ps⟩⟩ <;> first | (exfalso; have := h.1; simp at this; done) | skip
      obtain ⟨ks, rfl⟩ := isTup_is (d := x) h.2
      exact .plain ks
    split at h
    · rename_i hs
      obtain rfl := beq_iff_eq.mp hs
      rw [Bool.and_eq_true, Bool.and_eq_true, decide_eq_true_eq] at h
      rcases ps with _ | ⟨x, _ | ⟨y, _ | ⟨z, ps⟩⟩⟩ <;> first | (exfalso; have := h.1; simp at this; done) | skip
      obtain ⟨ks, rfl⟩ := isTup_is (d := y) h.2.2
      have h3 : inB x 0 (n - 1) = true := h.2.1
      cases x with
      | int i =>
        unfold inB at h3
        simp only [Bool.and_eq_true, decide_eq_true_eq] at h3
        exact .graft i ks h3.1 (by omega)
      | _ => cases h3
    · cases h
  · cases h
theorem kn_bgK {d : PyData} {n : Int} (h : Kn n d) : bgK d n = true := by
  cases h with
  | foot => rfl
  | word w hw =>
    show bgT "word" _ n = true
    unfold bgT
    rw [if_neg (by decide +kernel), if_pos (by decide +kernel)]
    show (decide (1 = 1) && wordD w) = true
    rw [hw]
    rfl
  | plain ks =>
    show bgT "plain" _ n = true
    unfold bgT
    rw [if_neg (by decide +kernel), if_neg (by decide +kernel), if_pos (by decide +kernel)]
    rfl
  | graft k ks h0 h1 =>
    show bgT "graft" _ n = true
    unfold bgT
    rw [if_neg (by decide +kernel), if_neg (by decide +kernel), if_neg (by decide +kernel), if_pos (by decide +kernel)]
    show (decide (2 = 2) && (inB (.int k) 0 (n - 1) && isTupD (.tuple ks))) = true
    have h2 : inB (.int k) 0 (n - 1) = true := by
      unfold inB
      simp only [Bool.and_eq_true, decide_eq_true_eq]
      omega
    rw [h2]
    rfl
theorem kids_foot : kidsD (.tuple [.str "foot"]) = [] := rfl
theorem kids_word (w : PyData) : kidsD (.tuple [.str "word", w]) = [] := by
  unfold kidsD
  split
  · rename_i s ks he
    cases he
    rw [if_neg (by decide +kernel)]
  · rename_i he
    cases he
  · rfl
theorem kids_plain (ks : List PyData) : kidsD (.tuple [.str "plain", .tuple ks]) = ks := by
  show (if (("plain" : Str) == ("plain" : Str)) = true then ks else []) = ks
  rw [if_pos (by decide +kernel)]
theorem kids_graft (k : PyData) (ks : List PyData) : kidsD (.tuple [.str "graft", k, .tuple ks]) = ks := by
  unfold kidsD
  split
  · rename_i s ks he
    cases he
  · rename_i s x ks he
    cases he
    rw [if_pos (by decide +kernel)]
  · rename_i h1 h2
    exact absurd rfl (h2 _ _ _)
theorem kids_dep {d c : PyData} (h : c ∈ kidsD d) : c.depth + 2 ≤ d.depth := by
  unfold kidsD at h
  split at h
  · rename_i s ks
    split at h
    · have h1 := depthAll_mem h
      have h2 : (PyData.tuple ks).depth ≤ PyData.depthAll [.str s, .tuple ks] := depthAll_mem (by simp)
      have h3 : (PyData.tuple ks).depth = PyData.depthAll ks + 1 := by simp [PyData.depth]
      have h4 : (PyData.tuple [.str s, .tuple ks]).depth = PyData.depthAll [.str s, .tuple ks] + 1 := by simp [PyData.depth]
      omega
    · cases h
  · rename_i s x ks
    split at h
    · have h1 := depthAll_mem h
      have h2 : (PyData.tuple ks).depth ≤ PyData.depthAll [.str s, x, .tuple ks] := depthAll_mem (by simp)
      have h3 : (PyData.tuple ks).depth = PyData.depthAll ks + 1 := by simp [PyData.depth]
      have h4 : (PyData.tuple [.str s, x, .tuple ks]).depth = PyData.depthAll [.str s, x, .tuple ks] + 1 := by simp [PyData.depth]
      omega
    · cases h
  · cases h
theorem kids_sm {m : Nat} {d c : PyData} (h : Sm m d) (hc : c ∈ kidsD d) : Sm (m - 2) c := by
  have hd := kids_dep hc
  refine ⟨?_, by have := h.2; omega⟩
  unfold kidsD at hc
  split at hc
  · rename_i s ks
    split at hc
    · exact ((h.memT (d := .tuple ks) (by simp)).memT hc).1
    · cases hc
  · rename_i s x ks
    split at hc
    · exact ((h.memT (d := .tuple ks) (by simp)).memT hc).1
    · cases hc
  · cases hc
def nodes : Nat → PyData → List PyData
  | 0, _ => []
  | k + 1, d => d :: (kidsD d).flatMap (nodes k)
theorem flatMap_ext {α β : Type} {f g : α → List β} : ∀ {l : List α}, (∀ x ∈ l, f x = g x) → l.flatMap f = l.flatMap g
  | [], _ => rfl
  | x :: l, h => by
    rw [List.flatMap_cons, List.flatMap_cons, h x List.mem_cons_self, flatMap_ext fun y hy => h y (List.mem_cons_of_mem _ hy)]
theorem nodes_stab : ∀ (k j : Nat) (d : PyData), d.depth < k → k ≤ j → nodes k d = nodes j d
  | 0, _, d, h, _ => by omega
  | k + 1, 0, _, _, h => by omega
  | k + 1, j + 1, d, h, hj => by
    show d :: _ = d :: _
    rw [flatMap_ext fun c hc => nodes_stab k j c (by have := kids_dep hc; omega) (by omega)]
def ND (d : PyData) : List PyData := nodes 64 d
theorem ND_eq {d : PyData} (h : d.depth ≤ 64) : ND d = d :: (kidsD d).flatMap ND := by
  show d :: (kidsD d).flatMap (nodes 63) = _
  rw [flatMap_ext fun c hc => nodes_stab 63 64 c (by have := kids_dep hc; omega) (by omega)]
  rfl
theorem ND_pos (d : PyData) : 1 ≤ (ND d).length := by
  show 1 ≤ (d :: _).length
  rw [List.length_cons]
  omega
/-- all knots within begin right -/
def okN (d : PyData) (n : Int) : Bool := (ND d).all fun x => bgK x n
theorem okN_self {d : PyData} {n : Int} (h : okN d n = true) : bgK d n = true := by
  unfold okN at h
  rw [List.all_eq_true] at h
  exact h d (by show d ∈ d :: _; exact List.mem_cons_self)
theorem okN_eq {d : PyData} {n : Int} (h : d.depth ≤ 64) : okN d n = (bgK d n && (kidsD d).all fun c => okN c n) := by
  unfold okN
  rw [ND_eq h, List.all_cons, List.all_flatMap]
theorem okN_kid {d c : PyData} {n : Int} (hd : d.depth ≤ 64) (h : okN d n = true) (hc : c ∈ kidsD d) : okN c n = true := by
  rw [okN_eq hd, Bool.and_eq_true, List.all_eq_true] at h
  exact h.2 c hc
theorem okN_kn {d : PyData} {n : Int} (h : okN d n = true) : Kn n d := bgK_kn (okN_self h)
theorem okN_mem {d x : PyData} {n : Int} (h : okN d n = true) (hx : x ∈ ND d) : Kn n x := by
  unfold okN at h
  rw [List.all_eq_true] at h
  exact bgK_kn (h x hx)
theorem okN_mk {d : PyData} {n : Int} (hd : d.depth ≤ 64) (h : Kn n d) (hk : ∀ c ∈ kidsD d, okN c n = true) : okN d n = true := by
  rw [okN_eq hd, kn_bgK h, List.all_eq_true.mpr hk]
  rfl
theorem ND_kid_len {d c : PyData} (hd : d.depth ≤ 64) (hc : c ∈ kidsD d) : (ND c).length < (ND d).length := by
  rw [ND_eq hd, List.length_cons]
  have h : ∀ l : List PyData, c ∈ l → (ND c).length ≤ (l.flatMap ND).length := fun l => by
    induction l with
    | nil => intro h; cases h
    | cons x l ih =>
      intro h
      rw [List.flatMap_cons, List.length_append]
      rcases List.mem_cons.mp h with rfl | h
      · omega
      · have := ih h
        omega
  have := h _ hc
  omega
/-- how many of the knots begin with s -/
def cnt (s : Str) (l : List PyData) : Nat := l.countP fun x => isS (hdD x) s
def wgD (l : List PyData) : Bool := l.any fun x => isS (hdD x) "word" || isS (hdD x) "graft"
def goodL (l : List PyData) : Bool := decide (l.length ≤ 12) && wgD l
def treeD (d : PyData) (n : Int) : Bool := match d with
  | .tuple [k, x] => inB k 0 (n - 1) && (okN x n && (goodL (ND x) && decide (cnt "foot" (ND x) = 1)))
  | _ => false
def treesD (d : PyData) (n : Int) : Bool := match d with
  | .tuple ts => (decide ((1 : Int) ≤ (ts.length : Nat)) && decide (((ts.length : Nat) : Int) ≤ 9)) && ts.all fun t => treeD t n
  | _ => false
theorem treesD_tup (ts : List PyData) (n : Int) : treesD (.tuple ts) n = ((decide ((1 : Int) ≤ (ts.length : Nat)) && decide (((ts.length : Nat) : Int) ≤ 9)) && ts.all fun t => treeD t n) := rfl
structure TreeIs (n : Int) (k : Int) (x : PyData) : Prop where
  k0 : 0 ≤ k
  k1 : k < n
  ok : okN x n = true
  len : (ND x).length ≤ 12
  wg : wgD (ND x) = true
  ft : cnt "foot" (ND x) = 1
theorem treeD_is {d : PyData} {n : Int} (h : treeD d n = true) : ∃ (k : Int) (x : PyData), d = .tuple [.int k, x] ∧ TreeIs n k x := by
  unfold treeD at h
  split at h
  · rename_i k x
    unfold goodL at h
    simp only [Bool.and_eq_true, decide_eq_true_eq] at h
    obtain ⟨h1, h2, ⟨h3, h4⟩, h5⟩ := h
    cases k with
    | int i =>
      unfold inB at h1
      simp only [Bool.and_eq_true, decide_eq_true_eq] at h1
      exact ⟨i, x, rfl, h1.1, by omega, h2, h3, h4, h5⟩
    | _ => cases h1
  · cases h
/-! ### steps -/
def grafts (x : PyData) : List PyData := (ND x).filter fun y => isS (hdD y) "graft"
def gkD (y : PyData) : PyData := match y with
  | .tuple [_, k, _] => k
  | _ => .none
def gkI (y : PyData) : Int := match gkD y with
  | .int k => k
  | _ => 0
def isOneT (d : PyData) : Bool := match d with
  | .tuple [_, x] => decide (cnt "word" (ND x) = 0) && decide ((grafts x).length = 1)
  | _ => false
def edgeT (d : PyData) : Int × Int := match d with
  | .tuple [.int k, x] => (k, gkI ((grafts x).getD 0 .none))
  | _ => (0, 0)
def edgesT (ts : List PyData) : List (Int × Int) := (ts.filter isOneT).map edgeT
theorem graft_is {n : Int} {x y : PyData} (h : okN x n = true) (hy : y ∈ grafts x) : ∃ (k : Int) (ks : List PyData), y = .tuple [.str "graft", .int k, .tuple ks] ∧ 0 ≤ k ∧ k < n := by
  obtain ⟨h1, h2⟩ := List.mem_filter.mp hy
  have h3 := okN_mem h h1
  cases h3 with
  | foot => exact absurd h2 (by decide +kernel)
  | word w _ => exact absurd (show isS (.str "word") "graft" = true from h2) (by decide +kernel)
  | plain ks => exact absurd (show isS (.str "plain") "graft" = true from h2) (by decide +kernel)
  | graft k ks g0 g1 => exact ⟨k, ks, rfl, g0, g1⟩
theorem oneT_is {d : PyData} {n : Int} (h : treeD d n = true) (ho : isOneT d = true) : ∃ (k c : Int) (x y : PyData), d = .tuple [.int k, x] ∧ grafts x = [y] ∧ gkD y = .int c ∧ 0 ≤ k ∧ k < n ∧ 0 ≤ c ∧ c < n ∧ edgeT d = (k, c) := by
  obtain ⟨k, x, rfl, T⟩ := treeD_is h
  have ho' : (decide (cnt "word" (ND x) = 0) && decide ((grafts x).length = 1)) = true := ho
  rw [Bool.and_eq_true, decide_eq_true_eq, decide_eq_true_eq] at ho'
  obtain ⟨y, hy⟩ := List.length_eq_one_iff.mp ho'.2
  obtain ⟨c, ks, rfl, c0, c1⟩ := graft_is T.ok (y := y) (by rw [hy]; exact List.mem_singleton.mpr rfl)
  refine ⟨k, c, x, _, rfl, hy, rfl, T.k0, T.k1, c0, c1, ?_⟩
  show (k, gkI ((grafts x).getD 0 .none)) = (k, c)
  rw [hy]
  rfl
theorem edgesT_in {ts : List PyData} {n : Int} (h : ∀ t ∈ ts, treeD t n = true) (a b : Int) (hm : (a, b) ∈ edgesT ts) : 0 ≤ a ∧ a < n ∧ 0 ≤ b ∧ b < n := by
  obtain ⟨r, hr, he⟩ := List.mem_map.mp hm
  obtain ⟨h1, h2⟩ := List.mem_filter.mp hr
  obtain ⟨k, c, x, y, rfl, _, _, g1, g2, g3, g4, ge⟩ := oneT_is (h r h1) h2
  rw [ge] at he
  cases he
  exact ⟨g1, g2, g3, g4⟩
theorem edgesT_len (ts : List PyData) : (edgesT ts).length ≤ ts.length := by
  unfold edgesT
  rw [List.length_map]
  exact List.length_filter_le _ _
/-- what Trees(kinds, trees) tells -/
def dueT (k r : PyData) : PyData := match k with
  | .int n => if 1 ≤ n ∧ n ≤ 8 then (if treesD r n = true then (match r with
      | .tuple ts => (match backK (edgesT ts) n.toNat with | none => .tuple [.str "kept", .int n, r] | some b => .tuple [.str "endless", .int b])
      | _ => .none) else .tuple [.str "trees", r]) else .tuple [.str "number", k]
  | _ => .tuple [.str "number", k]
/-! ### rows of knots that are still to look at -/
/-- vis: looked at; W: still to look at (the last one first) -/
def Wk (x : PyData) (vis W : List PyData) : Prop := (vis ++ W.flatMap ND).Perm (ND x)
theorem Wk.start (x : PyData) : Wk x [] [x] := by
  unfold Wk
  rw [List.nil_append, List.flatMap_cons, List.flatMap_nil, List.append_nil]
theorem Wk.turn {x y : PyData} {vis W : List PyData} (h : Wk x vis (W ++ [y])) (hy : y.depth ≤ 64) : Wk x (vis ++ [y]) (W ++ kidsD y) := by
  unfold Wk at h ⊢
  refine List.Perm.trans ?_ h
  rw [List.flatMap_append, List.flatMap_append, List.flatMap_cons, List.flatMap_nil, List.append_nil, ND_eq hy]
  rw [List.append_assoc]
  refine List.Perm.append_left vis ?_
  rw [List.singleton_append]
  exact (List.perm_middle).symm
theorem Wk.mem {x y : PyData} {vis W : List PyData} (h : Wk x vis (W ++ [y])) (hy : y.depth ≤ 64) : y ∈ ND x := by
  refine h.mem_iff.mp (List.mem_append_right _ ?_)
  rw [List.flatMap_append]
  refine List.mem_append_right _ ?_
  rw [List.flatMap_cons]
  refine List.mem_append_left _ ?_
  rw [ND_eq hy]
  exact List.mem_cons_self
theorem Wk.len {x y : PyData} {vis W : List PyData} (h : Wk x vis (W ++ [y])) : vis.length < (ND x).length := by
  have h1 := h.length_eq
  rw [List.length_append, List.flatMap_append, List.length_append, List.flatMap_cons, List.length_append] at h1
  have := ND_pos y
  omega
theorem Wk.done {x : PyData} {vis : List PyData} (h : Wk x vis []) : vis.Perm (ND x) := by
  unfold Wk at h
  rw [List.flatMap_nil, List.append_nil] at h
  exact h
/-! ### widths -/
mutual
def wid : PyData → Nat
  | .tuple ds => max ds.length (widAll ds)
  | .list ds => max ds.length (widAll ds)
  | _ => 0
def widAll : List PyData → Nat
  | [] => 0
  | d :: ds => max (wid d) (widAll ds)
end
def Wi (d : PyData) : Prop := wid d ≤ 1000
theorem widAll_of {n : Nat} : ∀ {ds : List PyData}, (∀ d ∈ ds, wid d ≤ n) → widAll ds ≤ n
  | [], _ => by simp [widAll]
  | d :: ds, h => by
    simp only [widAll]
    exact Nat.max_le.mpr ⟨h d List.mem_cons_self, widAll_of fun x hx => h x (List.mem_cons_of_mem _ hx)⟩
theorem widAll_mem : ∀ {ds : List PyData} {d : PyData}, d ∈ ds → wid d ≤ widAll ds
  | x :: ds, d, hm => by
    simp only [widAll]
    rcases List.mem_cons.mp hm with rfl | hm
    · exact Nat.le_max_left _ _
    · exact Nat.le_trans (widAll_mem hm) (Nat.le_max_right _ _)
theorem wi_tup {ds : List PyData} (hl : ds.length ≤ 1000) (h : ∀ d ∈ ds, Wi d) : Wi (.tuple ds) := by
  unfold Wi
  simp only [wid]
  exact Nat.max_le.mpr ⟨hl, widAll_of h⟩
theorem wi_lst {ds : List PyData} (hl : ds.length ≤ 1000) (h : ∀ d ∈ ds, Wi d) : Wi (.list ds) := by
  unfold Wi
  simp only [wid]
  exact Nat.max_le.mpr ⟨hl, widAll_of h⟩
theorem Wi.len {ds : List PyData} (h : Wi (.tuple ds)) : ds.length ≤ 1000 := by
  unfold Wi at h
  simp only [wid] at h
  exact Nat.le_trans (Nat.le_max_left _ _) h
theorem Wi.mem {ds : List PyData} {d : PyData} (h : Wi (.tuple ds)) (hd : d ∈ ds) : Wi d := by
  unfold Wi at h ⊢
  simp only [wid] at h
  exact Nat.le_trans (widAll_mem hd) (Nat.le_trans (Nat.le_max_right _ _) h)
theorem wi_int {i : Int} : Wi (.int i) := by unfold Wi; simp [wid]
theorem wi_bool {b : Bool} : Wi (.bool b) := by unfold Wi; simp [wid]
theorem wi_none : Wi .none := by unfold Wi; simp [wid]
theorem wi_str {s : Str} : Wi (.str s) := by unfold Wi; simp [wid]
theorem kids_wi {d c : PyData} (h : Wi d) (hc : c ∈ kidsD d) : Wi c := by
  unfold kidsD at hc
  split at hc
  · rename_i s ks
    split at hc
    · exact (h.mem (d := .tuple ks) (by simp)).mem hc
    · cases hc
  · rename_i s x ks
    split at hc
    · exact (h.mem (d := .tuple ks) (by simp)).mem hc
    · cases hc
  · cases hc
theorem kids_wl {d : PyData} (h : Wi d) : (kidsD d).length ≤ 1000 := by
  unfold kidsD
  split
  · rename_i s ks
    split
    · exact (h.mem (d := .tuple ks) (by simp)).len
    · exact Nat.zero_le _
  · rename_i s x ks
    split
    · exact (h.mem (d := .tuple ks) (by simp)).len
    · exact Nat.zero_le _
  · exact Nat.zero_le _
end K20

namespace K20
open PySem PySem.Spec PyProof.Rows L2 Evl Ex Dx
open PySem.PyData (strOk)

def topS (i : Nat) : Stmt := PySem.Challenge.pw_treestacks_k20_trees.main.body.getD i (.Pass ⟨0, 0, 0, 0⟩)

structure TupC (K : PySem.W.Frag) (mg : Str → Option Value) (x : Str) (L : List Str) : Prop where
  ex : ∃ W, mg x = some (.ref W) ∧ ∀ H, Dd K H (.ref W) (.tuple (L.map .str))
structure TC (K : PySem.W.Frag) (mg : Str → Option Value) : Prop extends TB mg where
  c_MOST_LETTERS : ∃ t, mg "MOST_LETTERS" = some (.int 3 t)
  c_MOST_KNOTS : ∃ t, mg "MOST_KNOTS" = some (.int 12 t)
  c_MOST_TREE_KINDS : ∃ t, mg "MOST_TREE_KINDS" = some (.int 8 t)
  c_MOST_TREES : ∃ t, mg "MOST_TREES" = some (.int 9 t)
  m_reversed : mg "reversed" = none

section
variable {P : Program} {w : World} {K : PySem.W.Frag} {mg : Str → Option Value} {base : Heap} {f : Addr} {fd : FuncData}

abbrev s_InvalidNumber_init : Stmt := inClass (topS 7) 0
abbrev N_InvalidNumber_init : List Str := ["self", "value"]
theorem sc_InvalidNumber_init : FnScope N_InvalidNumber_init ["self", "value"] (defScope s_InvalidNumber_init) := ⟨rfl, rfl, rfl, by decide +kernel, rfl, by decide +kernel, by decide +kernel⟩
theorem ok_InvalidNumber {fI G C : Addr} {mc : Value} (F : Fun K "__init__" "InvalidNumber.__init__" s_InvalidNumber_init fI fd) (hg : mg "GraftError" = some (.ref G)) (rd : ClX.CRead K G mc) (gi : PySem.W.findCls K (.ref G) mc "__init__" = some (.val (.builtin "ValueError.__init__"))) (oc : OexC K C) (no : PySem.W.findIn K (.ref C) "value" = some none) :
    FnOk P w K mg base CX0 1 fI fd ["self", "value"] (spInit C "value") := by
  refine F.ok sc_InvalidNumber_init (fun vs H Q E h => ?_) (fun cdv A outer s H vs Q E hr h => ?_)
  · obtain ⟨a, v, rfl, _⟩ := h
    rfl
  · obtain ⟨a, v, rfl, ha, k⟩ := h
    refine ⟨_, (pss_cons (ps_expr (pe_ginit rd gi rfl hg (pa_cons (pv 0) (pa_cons pe_str pa_nil))))
      (pss_one (ps_ost (pv 0) (pv 1)))), ?_⟩
    refine ⟨.ref a, rfl, a, C, _, rfl, (by show 1 ≤ 1000; decide), oc, ha, ?_⟩
    exact ⟨v, rfl, .ref a, rfl, a, C, rfl, oc, no, .inl ⟨ha, fun dx hdx hne => k dx hdx hne⟩⟩
abbrev s_InvalidTrees_init : Stmt := inClass (topS 8) 0
abbrev N_InvalidTrees_init : List Str := ["self", "value"]
theorem sc_InvalidTrees_init : FnScope N_InvalidTrees_init ["self", "value"] (defScope s_InvalidTrees_init) := ⟨rfl, rfl, rfl, by decide +kernel, rfl, by decide +kernel, by decide +kernel⟩
theorem ok_InvalidTrees {fI G C : Addr} {mc : Value} (F : Fun K "__init__" "InvalidTrees.__init__" s_InvalidTrees_init fI fd) (hg : mg "GraftError" = some (.ref G)) (rd : ClX.CRead K G mc) (gi : PySem.W.findCls K (.ref G) mc "__init__" = some (.val (.builtin "ValueError.__init__"))) (oc : OexC K C) (no : PySem.W.findIn K (.ref C) "value" = some none) :
    FnOk P w K mg base CX0 1 fI fd ["self", "value"] (spInit C "value") := by
  refine F.ok sc_InvalidTrees_init (fun vs H Q E h => ?_) (fun cdv A outer s H vs Q E hr h => ?_)
  · obtain ⟨a, v, rfl, _⟩ := h
    rfl
  · obtain ⟨a, v, rfl, ha, k⟩ := h
    refine ⟨_, (pss_cons (ps_expr (pe_ginit rd gi rfl hg (pa_cons (pv 0) (pa_cons pe_str pa_nil))))
      (pss_one (ps_ost (pv 0) (pv 1)))), ?_⟩
    refine ⟨.ref a, rfl, a, C, _, rfl, (by show 1 ≤ 1000; decide), oc, ha, ?_⟩
    exact ⟨v, rfl, .ref a, rfl, a, C, rfl, oc, no, .inl ⟨ha, fun dx hdx hne => k dx hdx hne⟩⟩
abbrev s_Endless_init : Stmt := inClass (topS 9) 0
abbrev N_Endless_init : List Str := ["self", "kind"]
theorem sc_Endless_init : FnScope N_Endless_init ["self", "kind"] (defScope s_Endless_init) := ⟨rfl, rfl, rfl, by decide +kernel, rfl, by decide +kernel, by decide +kernel⟩
theorem ok_Endless {fI G C : Addr} {mc : Value} (F : Fun K "__init__" "Endless.__init__" s_Endless_init fI fd) (hg : mg "GraftError" = some (.ref G)) (rd : ClX.CRead K G mc) (gi : PySem.W.findCls K (.ref G) mc "__init__" = some (.val (.builtin "ValueError.__init__"))) (oc : OexC K C) (no : PySem.W.findIn K (.ref C) "kind" = some none) :
    FnOk P w K mg base CX0 1 fI fd ["self", "kind"] (spInit C "kind") := by
  refine F.ok sc_Endless_init (fun vs H Q E h => ?_) (fun cdv A outer s H vs Q E hr h => ?_)
  · obtain ⟨a, v, rfl, _⟩ := h
    rfl
  · obtain ⟨a, v, rfl, ha, k⟩ := h
    refine ⟨_, (pss_cons (ps_expr (pe_ginit rd gi rfl hg (pa_cons (pv 0) (pa_cons pe_str pa_nil))))
      (pss_one (ps_ost (pv 0) (pv 1)))), ?_⟩
    refine ⟨.ref a, rfl, a, C, _, rfl, (by show 1 ≤ 1000; decide), oc, ha, ?_⟩
    exact ⟨v, rfl, .ref a, rfl, a, C, rfl, oc, no, .inl ⟨ha, fun dx hdx hne => k dx hdx hne⟩⟩
theorem one_arg {B : Hp} {vs : List V} {d : PyData} (h : DdAll K B vs [d]) : ∃ v, vs = [v] ∧ Dd K B v d := arg1 h
/-- _law_box(script, k): a new box, at a place where none was -/
def spBoxN (K : PySem.W.Frag) : Sp := fun vs H Q _ => ∃ (a : Addr) (k : Int) (ns : List Int) (B : Hp), vs = [.ref a, .int k] ∧ Ex B H ∧ SqL K B a (ns.map V.int) ∧ ns.length ≤ 63 ∧ 0 ≤ k ∧ k ≤ 1000 ∧
  ∀ p B' H', H p = none → Step (fun _ => False) B H B' H' → Ok (Fm.box p) B' H' → Q (.ref p) H'
abbrev s_law_box : Stmt := topS 30
abbrev N_law_box : List Str := ["script", "k", "cell", "great"]
theorem sc_law_box : FnScope N_law_box ["script", "k"] (defScope s_law_box) := ⟨rfl, rfl, rfl, by decide +kernel, rfl, by decide +kernel, by decide +kernel⟩
theorem ok_box (F : Fun K "_law_box" "_law_box" s_law_box f fd) (T : TB mg) : FnOk P w K mg base CX0 1 f fd ["script", "k"] (spBoxN K) := by
  refine F.ok sc_law_box (fun vs H Q E h => ?_) (fun cdv A outer s H vs Q E hr h => ?_)
  · obtain ⟨a, k, ns, B, rfl, _⟩ := h
    rfl
  · obtain ⟨a, k, ns, B, rfl, e, hS, hl, k0, k1, q⟩ := h
    refine ⟨_, (pss_cons (ps_set (i := 2) sc_law_box.nd rfl (Or.inl rfl) (pe_op (op_addK K) (pe_op op_mul pe_int (pv 1)) pe_int))
      (Evl.pss_cut (ps_if (pt_cmpR op_lt (pv 1) (pe_callB (call_lenK K) (by rfl) T.m_len bt_len (pa_cons (pv 0) pa_nil)) (nomark _)) (pss_one (ps_set (i := 2) sc_law_box.nd rfl (Or.inl rfl) (pe_callB call_abs (by rfl) T.m_abs bt_abs (pa_cons (pe_ix (ix_seqK K) (pv 0) (pv 1) (fun _ _ => rfl)) pa_nil)))) (pss_one (ps_if (pt_cmpR op_gt (pe_callB (call_lenK K) (by rfl) T.m_len bt_len (pa_cons (pv 0) pa_nil)) pe_int (nomark _)) (pss_one (ps_set (i := 2) sc_law_box.nd rfl (Or.inl rfl) (pe_op (op_addK K) (pe_op op_mul (pe_op op_mod (pe_callTy call_int1 (by rfl) T.m_int bt_int (pa_cons (pe_callB call_abs (by rfl) T.m_abs bt_abs (pa_cons (pe_ix (ix_seqK K) (pv 0) (pe_op op_mod (pe_callTy call_int1 (by rfl) T.m_int bt_int (pa_cons (pv 1) pa_nil)) (pe_callB (call_lenK K) (by rfl) T.m_len bt_len (pa_cons (pv 0) pa_nil))) (fun _ _ => rfl)) pa_nil)) pa_nil)) pe_int) pe_int) (pe_op op_mul pe_int (pv 1))))) pss_nil)))
      (pss_cons (ps_set (i := 3) sc_law_box.nd rfl (Or.inl rfl) (pe_ix (ix_seqK K) (pe_lst (pa_cons pe_int (pa_cons (pv 2) pa_nil))) (pe_callTy call_int1 (by rfl) T.m_int bt_int (pa_cons (pe_cmpR op_ge (pv 2) (pe_op op_pow pe_int pe_int) (nomark _)) pa_nil)) (fun _ _ => rfl)))
      (pss_one (ps_ret (pe_lst (pa_cons (pv 3) (pa_cons (pe_op (op_addK K) (pe_op op_mod (pe_callTy call_int1 (by rfl) T.m_int bt_int (pa_cons (pe_op (op_addK K) (pe_op op_mul (pe_op op_mod (pe_callTy call_int1 (by rfl) T.m_int bt_int (pa_cons (pv 2) pa_nil)) pe_int) pe_int) (pe_op op_mul pe_int (pv 1))) pa_nil)) pe_int) pe_int) pa_nil)))))))), ?_⟩
    have a0 : At Fm.pure B H B H := At.start (Ok.any e)
    have lenS : ∀ (σ : L2.St) B1, σ[0]? = some (some (V.ref a)) → Ex B B1 → ED Fm.pure K (tCB (fun xs H Q => ∃ x n, xs = [x] ∧ LenV K x H n ∧ Q (.int (n : Nat)) H) (tCons (tVar 0) tNil)) σ B1 (.int (ns.length : Nat)) := by
      intro σ B1 hσ e1 B2 e2 H2 j2 Q q
      exact ⟨.ref a, hσ, .ref a, ns.length, rfl, .inl ⟨_, ex_l j2.e (ex_l (e1.trans e2) hS), by rw [List.length_map]⟩, q _ B2 H2 (Step.refl j2.e) j2 (.int _)⟩
    have ixS : ∀ (σ : L2.St) B1 (i : Int) (ti : TE), σ[0]? = some (some (V.ref a)) → Ex B B1 → ED Fm.pure K ti σ B1 (.int i) → 0 ≤ i → i < (ns.length : Nat) → EV Fm.pure (tOp (rIx K) (tVar 0) ti) σ B1 (fun v _ => ∃ n : Int, v = .int n) := by
      intro σ B1 i ti hσ e1 hi h0 h1 B2 e2 H2 j2 Q q
      refine ⟨.ref a, hσ, hi B2 e2 H2 j2 _ fun v B3 H3 s3 j3 g => ?_⟩
      obtain rfl := dd_int g
      have hlt : i.toNat < ns.length := by omega
      have hx : (ns.map V.int)[i.toNat]? = some (V.int ns[i.toNat]) := by rw [List.getElem?_map, List.getElem?_eq_getElem hlt]; rfl
      refine .inl ⟨a, _, i, _, rfl, rfl, ex_l j3.e (ex_l ((e1.trans e2).trans s3.bb) hS), at_of (by omega) hx, q _ B3 H3 s3 j3 ⟨_, rfl⟩⟩
    have absE : ∀ (σ : L2.St) B1 (te : TE), EV Fm.pure te σ B1 (fun v _ => ∃ n : Int, v = .int n) → EV Fm.pure (tCB (fun xs H Q => ∃ i, xs = [.int i] ∧ Q (.int (if i < 0 then -i else i)) H) (tCons te tNil)) σ B1 (fun v _ => ∃ n : Int, v = .int n) := by
      intro σ B1 te h B2 e2 H2 j2 Q q
      exact h B2 e2 H2 j2 _ fun v B3 H3 s3 j3 ⟨n, hn⟩ => ⟨n, by rw [hn], q _ B3 H3 s3 j3 ⟨_, rfl⟩⟩
    have intE : ∀ (σ : L2.St) B1 (te : TE), EV Fm.pure te σ B1 (fun v _ => ∃ n : Int, v = .int n) → EV Fm.pure (tCB (fun xs H Q => (∃ i, xs = [.int i] ∧ Q (.int i) H) ∨ ∃ k, xs = [.bl k] ∧ Q (.int (if k then 1 else 0)) H) (tCons te tNil)) σ B1 (fun v _ => ∃ n : Int, v = .int n) := by
      intro σ B1 te h B2 e2 H2 j2 Q q
      exact h B2 e2 H2 j2 _ fun v B3 H3 s3 j3 ⟨n, hn⟩ => .inl ⟨n, by rw [hn], q _ B3 H3 s3 j3 ⟨_, rfl⟩⟩
    have upI : Upc (fun v _ => ∃ n : Int, v = V.int n) := fun _ _ _ _ h => h
    refine qv_asg a0 (ed_op (ed_op ed_int (ed_var rfl (.int k)) (rd_mul (.inl ⟨by decide, by decide⟩))) ed_int rd_add) fun v B1 H1 e1 a1 hv => ?_
    obtain rfl := dd_int hv
    refine ⟨fun σ' H' => ∃ c : Int, ∃ B', σ' = [some (.ref a), some (.int k), some (.int c), none] ∧ Ex B B' ∧ At Fm.pure B H B' H', ?_, ?_⟩
    · refine sv_if a1 (et_cmp (ed_op (ed_var rfl (.int k)) (lenS _ B1 rfl e1) rd_lt)) (fun hk B2 H2 e2 a2 => ?_) (fun hk B2 H2 e2 a2 => ?_)
      · have hk' : k < (ns.length : Nat) := of_decide_eq_true hk
        refine sv_asg a2 (absE _ B2 _ (ixS _ B2 k _ rfl (e1.trans e2) (ed_var rfl (.int k)) k0 hk')) fun v B3 H3 e3 a3 hv => ?_
        obtain ⟨c, rfl⟩ := hv
        exact ⟨c, B3, rfl, (e1.trans e2).trans e3, a3⟩
      · refine sv_if a2 (et_cmp (ed_op (lenS _ B2 rfl (e1.trans e2)) ed_int rd_gt)) (fun hz B3 H3 e3 a3 => ?_) (fun hz B3 H3 e3 a3 => ?_)
        · have hz' : (0 : Int) < (ns.length : Nat) := of_decide_eq_true hz
          have eb := (e1.trans e2).trans e3
          have ei : ED Fm.pure K (tOp (rI (fun _ j => 0 < j) fun i j => .int (i % j)) (tCB (fun xs H Q => (∃ i, xs = [.int i] ∧ Q (.int i) H) ∨ ∃ k, xs = [.bl k] ∧ Q (.int (if k then 1 else 0)) H) (tCons (tVar 1) tNil)) (tCB (fun xs H Q => ∃ x n, xs = [x] ∧ LenV K x H n ∧ Q (.int (n : Nat)) H) (tCons (tVar 0) tNil))) [some (.ref a), some (.int k), some (.int (7919 * k + 101)), none] B3 (.int (k % (ns.length : Nat))) :=
            ed_op (ev_cb (eds_cons (ed_var rfl (.int k)) eds_nil) rc_int1) (lenS _ B3 rfl eb) (rd_mod hz')
          have e5 := intE _ B3 _ (absE _ B3 _ (ixS _ B3 _ _ rfl eb ei (Int.emod_nonneg k (by omega)) (Int.emod_lt_of_pos k hz')))
          refine sv_asg (P := fun v _ => ∃ n : Int, v = .int n) a3 (ev_op (ev_op (P' := DD K (.int 31)) (Z := fun v _ => ∃ n : Int, v = .int n) (ev_op (P' := DD K (.int 1000000007)) (Z := fun v _ => ∃ n : Int, v = .int n) e5 ed_int upI ?_) ed_int upI ?_) (P' := DD K (.int (7919 * k))) (ed_op ed_int (ed_var rfl (.int k)) (rd_mul (.inl ⟨by decide, by decide⟩))) upI ?_) fun v B4 H4 e4 a4 hv => ?_
          · intro B6 _ H6 u v j6 ⟨n, hu⟩ hv Q q
            exact ⟨n, 1000000007, hu, dd_int hv, (show (0 : Int) < 1000000007 by decide), q _ B6 H6 (Step.refl j6.e) j6 ⟨_, rfl⟩⟩
          · intro B6 _ H6 u v j6 ⟨n, hu⟩ hv Q q
            exact ⟨n, 31, hu, dd_int hv, .inr ⟨by decide, by decide⟩, q _ B6 H6 (Step.refl j6.e) j6 ⟨_, rfl⟩⟩
          · intro B6 _ H6 u v j6 ⟨n, hu⟩ hv Q q
            exact .inl ⟨n, _, hu, dd_int hv, q _ B6 H6 (Step.refl j6.e) j6 ⟨_, rfl⟩⟩
          obtain ⟨c, rfl⟩ := hv
          exact ⟨c, B4, rfl, eb.trans e4, a4⟩
        · exact ⟨_, B3, rfl, (e1.trans e2).trans e3, a3⟩
    · rintro σ' H' ⟨c, B4, rfl, e4, a4⟩
      refine qv_asg (P := fun v _ => ∃ n : Int, v = .int n) a4 (ev_op (P := DD K (.list [.int 0, .int c])) (P' := DD K (.int (if decide ((10 : Int) ^ (18 : Int).toNat ≤ c) = true then 1 else 0))) (ed_lst (eds_cons ed_int (eds_cons (ed_var rfl (.int c)) eds_nil))) (ev_cb (eds_cons (ed_op (ed_var rfl (.int c)) (ed_op ed_int ed_int (rd_pow ⟨by decide, by decide, by decide⟩)) rd_ge) eds_nil) rc_intB) upc_dd ?_) fun v B5 H5 e5 a5 hv => ?_
      · intro B6 _ H6 u v j6 hu hv Q q
        obtain rfl := dd_int hv
        refine rd_ixL (F := Fm.pure) (K := K) (B := B6) (d := .int (if decide ((10 : Int) ^ (18 : Int).toNat ≤ c) = true then c else 0)) ?_ B6 (Ex.refl B6) H6 u _ j6 hu (.int _) Q fun w B7 H7 s7 k7 g => q w B7 H7 s7 k7 ⟨_, dd_int g⟩
        by_cases hc : decide ((10 : Int) ^ (18 : Int).toNat ≤ c) = true
        · rw [if_pos hc, if_pos hc]
          rfl
        · rw [if_neg hc, if_neg hc]
          rfl
      obtain ⟨g, rfl⟩ := hv
      refine sv_retL (K := K) (ds := [.int g, .int (((c % 1000000007 * 48271 + 613 * k) % 2147483647) + 1)]) a5 (eds_cons (ed_var rfl (.int g)) (eds_cons (ed_op (ed_op (ev_cb (eds_cons (ed_op (ed_op (ed_op (ev_cb (eds_cons (ed_var rfl (.int c)) eds_nil) rc_int1) ed_int (rd_mod (by decide))) ed_int (rd_mul (.inr ⟨by decide, by decide⟩))) (ed_op ed_int (ed_var rfl (.int k)) (rd_mul (.inl ⟨by decide, by decide⟩))) rd_add) eds_nil) rc_int1) ed_int (rd_mod (by decide))) ed_int rd_add) eds_nil)) fun vs B6 H6 s6 j6 g6 => ⟨?_, fun p hp => ?_⟩
      · rw [DdAll.len g6]
        show 2 ≤ sizeLine
        decide
      · cases g6 with
        | cons g1 t =>
          cases t with
          | cons g2 t =>
            cases t
            obtain rfl := dd_int g1
            obtain rfl := dd_int g2
            have a6 := a5.next s6 j6
            have hpB : B6 p = none := fresh_back j6.e hp
            have s7 : Step (fun _ => False) B6 H6 B6 (upd H6 p (.lst [.int g, .int (((c % 1000000007 * 48271 + 613 * k) % 2147483647) + 1)])) :=
              ⟨Ex.refl B6, fun x o h => by rw [upd_ne (ne_of_none h hpB)]; exact j6.e x o h, fun x o _ h => by rw [upd_ne (ne_of_none h hp)]; exact h, fun x h _ => h, fun x n => by
                have hx : x ≠ p := fun z => n (z ▸ hp)
                rw [upd_ne hx]
                exact n⟩
            exact q p B6 _ (fresh_back a6.st.ex hp) (a6.st.trans s7) ⟨s7.bh, ⟨g, _, upd_same⟩, fun x m => by
              have m' : x = p := m
              rw [m']
              exact hpB⟩
abbrev s_law_take : Stmt := topS 31
abbrev N_law_take : List Str := ["box", "many", "got"]
theorem sc_law_take : FnScope N_law_take ["box", "many"] (defScope s_law_take) := ⟨rfl, rfl, rfl, by decide +kernel, rfl, by decide +kernel, by decide +kernel⟩
theorem ok_take (F : Fun K "_law_take" "_law_take" s_law_take f fd) (T : TB mg) : FnOk P w K mg base CX0 1 f fd ["box", "many"] (spTake K) := by
  refine F.ok sc_law_take (fun vs H Q E h => ?_) (fun cdv A outer s H vs Q E hr h => ?_)
  · obtain ⟨p, us, B, ds, rfl, ok, hu, ⟨m, rfl, hm⟩, k⟩ := h
    cases hu with
    | cons h1 t =>
      cases t
      rfl
  · obtain ⟨p, us, B, ds, rfl, ok, hu, ⟨m, rfl, h0, h1⟩, k⟩ := h
    cases hu with
    | cons hm t =>
      cases t
      obtain rfl := dd_int hm
      obtain ⟨g, s, hp⟩ := ok.j
      refine ⟨_, (pss_cons (ps_if (pt_cmpR op_gt (pe_ix (ix_seqK K) (pv 0) pe_int (fun _ _ => rfl)) pe_int (nomark _)) (pss_cons (ps_set (i := 2) sc_law_take.nd rfl (Or.inl rfl) (pe_op op_mod (pe_callTy call_int1 (by rfl) T.m_int bt_int (pa_cons (pe_ix (ix_seqK K) (pv 0) pe_int (fun _ _ => rfl)) pa_nil)) (pv 1)))
      (pss_cons (ps_asg (pe_op op_fdiv (pe_ix (ix_seqK K) (pv 0) pe_int (fun _ _ => rfl)) (pv 1)) (pg_sub (pv 0) pe_int set_list))
      (pss_one (ps_ret (pv 2))))) pss_nil)
      (pss_cons (ps_asg (pe_op op_mod (pe_callTy call_int1 (by rfl) T.m_int bt_int (pa_cons (pe_op (op_addK K) (pe_op op_mul (pe_ix (ix_seqK K) (pv 0) pe_int (fun _ _ => rfl)) pe_int) pe_int) pa_nil)) pe_int) (pg_sub (pv 0) pe_int set_list))
      (pss_one (ps_ret (pe_op op_mod (pe_callTy call_int1 (by rfl) T.m_int bt_int (pa_cons (pe_op op_fdiv (pe_ix (ix_seqK K) (pv 0) pe_int (fun _ _ => rfl)) pe_int) pa_nil)) (pv 1)))))), ?_⟩
      have a : At Fm.pure H H H H := At.start (Ok.any (Ex.refl H))
      have hb : Dd K H (.ref p) (.list [.int g, .int s]) := .lst hp (by show 2 ≤ sizeLine; decide) (.cons (.int g) (.cons (.int s) .nil))
      have fin : ∀ (g' s' got : Int) B1 H1, At Fm.pure H H B1 H1 → 0 ≤ got → got < m → Q (.int got) (upd H1 p (.lst [.int g', .int s'])) := by
        intro g' s' got B1 H1 a1 q0 q1
        have eH : Ex H H1 := a1.st.ex
        have st : Step (fun x => x = p) B H B (upd H1 p (.lst [.int g', .int s'])) := ⟨Ex.refl B, fun x o h => by
            have hx : x ≠ p := fun z => by
              rw [z, ok.av p rfl] at h
              cases h
            rw [upd_ne hx]
            exact eH x o (ok.e x o h), fun x o n h => by
            rw [upd_ne n]
            exact eH x o h, fun x h _ => h, fun x n => by
            by_cases hx : x = p
            · rw [hx, upd_same]
              exact fun z => nomatch z
            · rw [upd_ne hx]
              exact a1.st.live x n⟩
        exact k _ B _ st ⟨st.bh, ⟨g', s', upd_same⟩, ok.av⟩ ⟨got, m, rfl, rfl, q0, q1⟩
      have hm0 : (m : Int) ≠ 0 := by omega
      refine qv_when a (et_cmp (ed_op (ed_op (ed_var rfl hb) ed_int (rd_ixL (d := .int g) rfl)) ed_int rd_gt)) (fun _ B1 H1 e1 a1 => ?_) (fun _ B1 H1 e1 a1 => ?_)
      · refine qv_asg a1 (ed_op (ev_cb (eds_cons (ed_op (ed_var rfl (hb.up e1)) ed_int (rd_ixL (d := .int g) rfl)) eds_nil) rc_int1) (ed_var rfl (.int m)) (rd_mod h0)) fun v B2 H2 e2 a2 hv => ?_
        obtain rfl := dd_int hv
        have ev : ED Fm.pure K (tOp (rI CDiv fun i j => .int (i / j)) (tOp (rIx K) (tVar 0) (tC (.int 0))) (tVar 1)) [some (.ref p), some (.int m), some (.int (g % m))] B2 (.int (g / m)) :=
          ed_op (ed_op (ed_var rfl (hb.up (e1.trans e2))) ed_int (rd_ixL (d := .int g) rfl)) (ed_var rfl (.int m)) (rd_fdiv ⟨h0, h1⟩)
        refine ev B2 (Ex.refl B2) H2 a2.j _ fun v B3 H3 s3 j3 hv => ?_
        obtain rfl := dd_int hv
        have a3 := a2.next s3 j3
        have hp3 : H3 p = some (.lst [.int g, .int s]) := a3.st.ex p _ hp
        exact ⟨.ref p, rfl, p, _, 0, 0, rfl, rfl, hp3, rfl, _, rfl, fin _ _ _ B3 H3 a3 (Int.emod_nonneg g hm0) (Int.emod_lt_of_pos g h0)⟩
      · have ev : ED Fm.pure K (tOp (rI (fun _ j => 0 < j) fun i j => .int (i % j)) (tCB (fun xs H Q => (∃ i, xs = [.int i] ∧ Q (.int i) H) ∨ ∃ k, xs = [.bl k] ∧ Q (.int (if k then 1 else 0)) H) (tCons (tOp (rAddA K) (tOp (rI CMul fun i j => .int (i * j)) (tOp (rIx K) (tVar 0) (tC (.int 1))) (tC (.int 39373))) (tC (.int 69621))) tNil)) (tC (.int 2147483647))) [some (.ref p), some (.int m), none] B1 (.int ((s * 39373 + 69621) % 2147483647)) :=
          ed_op (ev_cb (eds_cons (ed_op (ed_op (ed_op (ed_var rfl (hb.up e1)) ed_int (rd_ixL (d := .int s) rfl)) ed_int (rd_mul (.inr ⟨by decide, by decide⟩))) ed_int rd_add) eds_nil) rc_int1) ed_int (rd_mod (by decide))
        refine ev B1 (Ex.refl B1) H1 a1.j _ fun v B2 H2 s2 j2 hv => ?_
        obtain rfl := dd_int hv
        have a2 := a1.next s2 j2
        have hp2 : H2 p = some (.lst [.int g, .int s]) := a2.st.ex p _ hp
        refine ⟨.ref p, rfl, p, _, 1, 1, rfl, rfl, hp2, rfl, ?_⟩
        have hup : upd H2 p (.lst [.int g, .int ((s * 39373 + 69621) % 2147483647)]) p = some (.lst [.int g, .int ((s * 39373 + 69621) % 2147483647)]) := upd_same
        refine ⟨.ref p, rfl, .inl ⟨p, _, 1, .int ((s * 39373 + 69621) % 2147483647), rfl, rfl, sq_of hup, rfl, ?_⟩⟩
        refine ⟨_, 8191, rfl, rfl, ⟨by decide, by decide⟩, .inl ⟨_, rfl, _, rfl, _, m, rfl, rfl, h0, ?_⟩⟩
        exact fin _ _ _ B2 H2 a2 (Int.emod_nonneg _ hm0) (Int.emod_lt_of_pos _ h0)
abbrev s_law_pick : Stmt := topS 32
abbrev N_law_pick : List Str := ["box", "some"]
theorem sc_law_pick : FnScope N_law_pick ["box", "some"] (defScope s_law_pick) := ⟨rfl, rfl, rfl, by decide +kernel, rfl, by decide +kernel, by decide +kernel⟩
theorem ok_pick (F : Fun K "_law_pick" "_law_pick" s_law_pick f fd) (T : TB mg) (C_law_take : Callee P w K mg base "_law_take" 1 ["box", "many"] (spTake K)) : FnOk P w K mg base CX0 2 f fd ["box", "some"] (spPick K) := by
  refine F.ok sc_law_pick (fun vs H Q E h => ?_) (fun cdv A outer s H vs Q E hr h => ?_)
  · obtain ⟨p, us, B, ds, rfl, ok, hu, ⟨d, xs, rfl, _⟩, k⟩ := h
    cases hu with
    | cons h1 t =>
      cases t
      rfl
  · obtain ⟨p, us, B, ds, rfl, ok, hu, ⟨d, xs, rfl, hd, hne, hlt⟩, k⟩ := h
    cases hu with
    | cons hm t =>
      cases t
      refine ⟨_, (pss_one (ps_ret (pe_ix (ix_seqK K) (pv 1) (pe_callC C_law_take (hr.mono (by decide)) rfl pass0 (pa_cons (pv 0) (pa_cons (pe_callB (call_lenK K) (by rfl) T.m_len bt_len (pa_cons (pv 1) pa_nil)) pa_nil))) (fun _ _ => rfl)))), ?_⟩
      have a : At (Fm.box p) B H B H := At.start ok
      have hl : hasLen d = true := by rcases hd with rfl | rfl <;> rfl
      have hn : lenD d = (xs.length : Nat) := by rcases hd with rfl | rfl <;> rfl
      have hpos : 0 < xs.length := List.length_pos_iff.mpr hne
      refine sv_ret (P := fun v B => ∃ e, e ∈ xs ∧ Dd K B v e) a (ev_op (ed_var rfl hm) (ev_take (m := lenD d) rfl (ev_cb (eds_cons (ed_var rfl hm) eds_nil) (rc_len hl)) (by rw [hn]; omega) (by rw [hn]; omega)) upc_dd (by rw [hn]; exact rv_pick hd)) fun v B1 H1 e1 a1 ⟨e, he, hv⟩ => ?_
      refine k v B1 H1 a1.st a1.j ⟨d, e, rfl, ?_, hv⟩
      rcases hd with rfl | rfl <;> exact he
abbrev s_is_integer : Stmt := topS 2
abbrev N_is_integer : List Str := ["value"]
theorem sc_is_integer : FnScope N_is_integer ["value"] (defScope s_is_integer) := ⟨rfl, rfl, rfl, by decide +kernel, rfl, by decide +kernel, by decide +kernel⟩
theorem ok_is_integer (F : Fun K "is_integer" "is_integer" s_is_integer f fd) (T : TB mg) : FnOk P w K mg base CX0 1 f fd ["value"] (spInt K) := by
  refine F.ok sc_is_integer (fun vs H Q E h => ?_) (fun cdv A outer s H vs Q E hr h => ?_)
  · obtain ⟨B, ds, e, hd, ⟨d, rfl⟩, q⟩ := h
    obtain ⟨v, rfl, _⟩ := one_arg hd
    rfl
  · obtain ⟨B, ds, e, hd, ⟨d, rfl⟩, q⟩ := h
    obtain ⟨v, rfl, hv⟩ := one_arg hd
    refine ⟨_, (pss_one (ps_ret (pe_and (pe_callB (call_isiK1 K) (by rfl) T.m_isinstance bt_isinstance (pa_cons (pv 0) (pa_cons (pe_bltn (v := .ty "int") (by rfl) T.m_int bt_int rfl) pa_nil))) (pe_one (pe_not (pe_callB (call_isiK1 K) (by rfl) T.m_isinstance bt_isinstance (pa_cons (pv 0) (pa_cons (pe_bltn (v := .ty "bool") (by rfl) T.m_bool bt_bool rfl) pa_nil)))))))), ?_⟩
    have a : At Fm.pure B H B H := At.start (Ok.any e)
    have e2 : (isIntD d && !isBoolD d) = isI d := by cases d <;> rfl
    refine sv_ret (P := DD K (.bool (isI d))) a (ed_is (ed_andV (ed_isi (ed_var rfl hv) (kit_int d)) (fun _ => ed_notV (ed_isi (ed_var rfl hv) (kit_bool d)))) (by rw [e2])) fun v B1 H1 e1 a1 h1 => ?_
    exact q v B1 H1 a1.st h1
abbrev s_is_between : Stmt := topS 3
abbrev N_is_between : List Str := ["value", "low", "high"]
theorem sc_is_between : FnScope N_is_between ["value", "low", "high"] (defScope s_is_between) := ⟨rfl, rfl, rfl, by decide +kernel, rfl, by decide +kernel, by decide +kernel⟩
theorem ok_is_between (F : Fun K "is_between" "is_between" s_is_between f fd) (T : TB mg) (C_is_integer : Callee P w K mg base "is_integer" 1 ["value"] (spInt K)) : FnOk P w K mg base CX0 2 f fd ["value", "low", "high"] (spBetween K) := by
  refine F.ok sc_is_between (fun vs H Q E h => ?_) (fun cdv A outer s H vs Q E hr h => ?_)
  · obtain ⟨B, ds, e, hd, ⟨d, lo, hi, rfl⟩, q⟩ := h
    exact hd.len
  · obtain ⟨B, ds, e, hd, ⟨d, lo, hi, rfl⟩, q⟩ := h
    cases hd with
    | cons hv t =>
      cases t with
      | cons hlo t =>
        cases t with
        | cons hhi t =>
          cases t
          obtain rfl := dd_int hlo
          obtain rfl := dd_int hhi
          refine ⟨_, (pss_one (ps_ret (pe_and (pe_callC C_is_integer (hr.mono (by decide)) rfl pass0 (pa_cons (pv 0) pa_nil)) (pe_one (pe_chain op_le op_le (pv 1) (pv 0) (pv 2)))))), ?_⟩
          have a : At Fm.pure B H B H := At.start (Ok.any e)
          refine sv_ret (P := DD K (fBetween [d, .int lo, .int hi])) a (ed_is (ed_andV (b := isI d) (c := match d with | .int i => decide (lo ≤ i) && decide (i ≤ hi) | _ => false) (ed_F (eds_cons (ed_var rfl hv) eds_nil) ⟨d, rfl⟩ rfl) (fun hi1 => ?_)) ?_) fun v B1 H1 e1 a1 h1 => ?_
          · cases d with
            | int i =>
              obtain rfl := dd_int hv
              exact ed_chain (ed_var rfl (.int lo)) (ed_var rfl (.int i)) rd_le (fun _ => ⟨_, ed_var rfl (.int hi), rd_le⟩)
            | _ => cases hi1
          · cases d <;> rfl
          · exact q v B1 H1 a1.st h1
end
end K20

namespace K20
open PySem PySem.Spec PyProof.Rows L2 Evl Ex Dx
open PySem.PyData (strOk)

section
variable {P : Program} {w : World} {K : PySem.W.Frag} {mg : Str → Option Value} {base : Heap} {f : Addr} {fd : FuncData}

def fWord : List PyData → PyData
  | [d] => .bool (wordD d)
  | _ => .none
def fRule : List PyData → PyData
  | [d, .int n] => .bool (ruleD d n)
  | _ => .none
def fRules : List PyData → PyData
  | [d, .int n] => .bool (rulesD d n)
  | _ => .none
def numsD (d : PyData) (n : Int) : Bool := match d with
  | .tuple ds => ds.all fun e => inB e 0 (n - 1)
  | _ => false
def fNums : List PyData → PyData
  | [d, .int n] => .bool (numsD d n)
  | _ => .none
def preW (ds : List PyData) : Prop := ∃ d, ds = [d] ∧ Sm 60 d
def preR (ds : List PyData) : Prop := ∃ d n, ds = [d, .int n] ∧ Sm 60 d
theorem leL (ds : List PyData) (k : Int) : decide (((ds.length : Nat) : Int) < k) = decide ((ds.length : Int) < k) := rfl
theorem three (d : PyData) : (∃ x y p ps, d = .tuple (x :: y :: p :: ps)) ∨ (isTupD d = false ∧ ∀ n, ruleD d n = false) ∨ (∃ ds, d = .tuple ds ∧ ds.length < 3 ∧ ∀ n, ruleD d n = false) := by
  cases d with
  | tuple ds =>
    rcases ds with _ | ⟨x, _ | ⟨y, _ | ⟨p, ps⟩⟩⟩
    · exact .inr (.inr ⟨_, rfl, by simp, fun _ => rfl⟩)
    · exact .inr (.inr ⟨_, rfl, by simp, fun _ => rfl⟩)
    · exact .inr (.inr ⟨_, rfl, by simp, fun _ => by unfold ruleD; split <;> simp_all⟩)
    · exact .inl ⟨_, _, _, _, rfl⟩
  | _ => exact .inr (.inl ⟨rfl, fun _ => rfl⟩)
theorem at3_0 {x y p : PyData} {ps : List PyData} : atI (x :: y :: p :: ps) 0 = some x := atI_nat (j := 0) rfl
theorem at3_1 {x y p : PyData} {ps : List PyData} : atI (x :: y :: p :: ps) 1 = some y := atI_nat (j := 1) rfl
theorem at3_2 {x y p : PyData} {ps : List PyData} : atI (x :: y :: p :: ps) 2 = some p := atI_nat (j := 2) rfl
theorem isStr_is {d : PyData} (h : isStrD d = true) : ∃ s, d = .str s := by
  cases d with
  | str s => exact ⟨s, rfl⟩
  | _ => cases h
theorem cut2 {x y : PyData} {l : List PyData} : cutL (x :: y :: l) (some 2) none = l := by
  unfold cutL HT.sIx
  simp
theorem cut1 {x : PyData} {l : List PyData} : cutL (x :: l) none (some 1) = [x] := by
  unfold cutL HT.sIx
  simp
theorem lenk (x y p : PyData) (ps : List PyData) (k : Nat) : PyData.eqv (.int (lenD (.tuple (x :: y :: p :: ps)))) (.int ((k : Int) + 2)) = decide ((p :: ps).length = k) := by
  rw [eqv_int]
  show ((((ps.length + 1 + 1 + 1 : Nat)) : Int) == (k : Int) + 2) = decide (ps.length + 1 = k)
  rw [Bool.eq_iff_iff, beq_iff_eq, decide_eq_true_eq]
  omega
theorem pyStr {F : Fm} {σ : L2.St} {B : Hp} {x y z : Str} (hx : x.length ≤ sizeLine := by decide) (hy : y.length ≤ sizeLine := by decide) (hz : z.length ≤ sizeLine := by decide) : ED F K (tLst (tCons (tC (.str x)) (tCons (tC (.str y)) (tCons (tC (.str z)) tNil)))) σ B (.list ([x, y, z].map .str)) := ed_lst (eds_cons (ed_str hx) (eds_cons (ed_str hy) (eds_cons (ed_str hz) eds_nil)))
theorem pyStr2 {F : Fm} {σ : L2.St} {B : Hp} {x y : Str} (hx : x.length ≤ sizeLine := by decide) (hy : y.length ≤ sizeLine := by decide) : ED F K (tLst (tCons (tC (.str x)) (tCons (tC (.str y)) tNil))) σ B (.list ([x, y].map .str)) := ed_lst (eds_cons (ed_str hx) (eds_cons (ed_str hy) eds_nil))
theorem flatS (L : List Str) : (L.map PyData.str).all flatD = true := by
  rw [List.all_map]
  exact List.all_eq_true.mpr fun _ _ => rfl
theorem inSL {F : Fm} {σ : L2.St} {B : Hp} {ta tb : TE} {s : Str} {L : List Str} (h1 : ED F K ta σ B (.str s)) (h2 : ED F K tb σ B (.list (L.map .str))) : ED F K (tOp (rIn K false) ta tb) σ B (.bool (inS s L)) := ed_is (ed_op h1 h2 (rd_isin (.inl rfl) rfl (flatS L))) (by rw [inD_str])
theorem inST {F : Fm} {σ : L2.St} {B : Hp} {ta tb : TE} {s : Str} {L : List Str} (h1 : ED F K ta σ B (.str s)) (h2 : ED F K tb σ B (.tuple (L.map .str))) : ED F K (tOp (rIn K false) ta tb) σ B (.bool (inS s L)) := ed_is (ed_op h1 h2 (rd_isin (.inr rfl) rfl (flatS L))) (by rw [inD_str])

abbrev s_is_word : Stmt := topS 4
abbrev N_is_word : List Str := ["value", "sign"]
theorem sc_is_word : FnScope N_is_word ["value"] (defScope s_is_word) := ⟨rfl, rfl, rfl, by decide +kernel, rfl, by decide +kernel, by decide +kernel⟩
theorem ok_is_word (F : Fun K "is_word" "is_word" s_is_word f fd) (T : TC K mg) : FnOk P w K mg base CX0 1 f fd ["value"] (spF K pre1 fWord) := by
  refine F.ok sc_is_word (fun vs H Q E h => ?_) (fun cdv A outer s H vs Q E hr h => ?_)
  · obtain ⟨B, ds, e, hd, ⟨d, rfl⟩, q⟩ := h
    exact hd.len
  · obtain ⟨B, ds, e, hd, ⟨d, rfl⟩, q⟩ := h
    obtain ⟨v, rfl, hv⟩ := arg1 hd
    refine ⟨_, (pss_cons (ps_if (PW.pt (pw_or (pt_not (pt_val (pe_callB (call_isiK1 K) (by rfl) T.m_isinstance bt_isinstance (pa_cons (pv 0) (pa_cons (pe_bltn (v := .ty "str") (by rfl) T.m_str bt_str rfl) pa_nil))))) (pw_or1 (pt_not (pt_chain op_le op_le pe_int (pe_callB (call_lenK K) (by rfl) T.m_len bt_len (pa_cons (pv 0) pa_nil)) (pe_gint rfl T.c_MOST_LETTERS)))))) (pss_one (ps_ret pe_bl)) pss_nil)
      (pss_one (ps_ret (pe_callB (cr_allK K) (by rfl) T.m_all bt_all (pa_cons (pe_lc (own := [("sign", 1)]) rfl sc_is_word.nd (pi_str (pv 0)) (blkOk_by (own := [("sign", 1)]) (N := N_is_word) (sc := defScope s_is_word) (by decide +kernel)) (fun _ _ _ _ _ => pg_name (i := 1) sc_is_word.nd rfl (Or.inl rfl)) (fun _ _ _ _ _ => pts_nil) (fun _ _ _ _ _ => (pe_chain op_le_str op_le_str pe_str (pv 1) pe_str))) pa_nil))))), ?_⟩
    have a : At Fm.pure B H B H := At.start (Ok.any e)
    have fin : ∀ b B1 H1, At Fm.pure B H B1 H1 → b = wordD d → Q (.bl b) H1 := fun b B1 H1 a1 eb => by
      refine q _ B1 H1 a1.st ?_
      show Dd K B1 (.bl b) (.bool (wordD d))
      rw [eb]
      exact .bl _
    by_cases hs : isStrD d = true
    · obtain ⟨x, rfl⟩ := isStr_is hs
      refine qv_when (b := !(decide ((1 : Int) ≤ (x.length : Nat)) && decide (((x.length : Nat) : Int) ≤ 3))) a (et_is (et_or (b := false) (et_not (et_val (ed_isi (ed_var rfl hv) (kit_str _)))) fun _ => et_not (et_cmp (ed_chain (ed_int) (ev_cb (eds_cons (ed_var rfl hv) eds_nil) (rc_len rfl)) rd_le fun _ => ⟨_, ed_int, rd_le⟩))) (by rfl)) (fun hb B1 H1 e1 a1 => ?_) (fun hb B1 H1 e1 a1 => ?_)
      · refine sv_ret (P := DD K (.bool false)) a1 ed_bl fun v1 B2 H2 e2 a2 h2 => ?_
        obtain rfl := dd_bl h2
        refine fin _ B2 H2 a2 ?_
        rw [wordD_str]
        rw [Bool.not_eq_true'] at hb
        rw [hb]
        rfl
      · refine sv_ret (P := DD K (.bool (wordD (.str x)))) a1 (ed_is (ev_cb (eds_cons (ed_is (ed_lcS (fun _ => true) (fun c => .bool (!loS c && !hiS c)) (ed_var rfl (hv.up e1)) (fun _ => rfl) (fun c B2 _ _ => et_yes) (fun c B2 _ _ e2 => ed_chain (ed_str) (ed_var rfl (.str _ (by show 1 ≤ sizeLine; decide))) rd_leS fun _ => ⟨_, ed_str, rd_leS⟩)) (by rw [mapb])) eds_nil) rc_all) ?_) fun v1 B2 H2 e2 a2 h2 => ?_
        · rw [wordD_str]
          rw [Bool.not_eq_false'] at hb
          rw [hb, all_id]
          rfl
        · obtain rfl := dd_bl h2
          exact fin _ B2 H2 a2 rfl
    · have hs' : isStrD d = false := by simpa using hs
      refine qv_when (b := true) a (et_is (et_or (b := !isStrD d) (c := true) (et_not (et_val (ed_isi (ed_var rfl hv) (kit_str _)))) fun h => by rw [hs'] at h; cases h) (by rw [hs']; rfl)) (fun hb B1 H1 e1 a1 => ?_) (fun h => nomatch h)
      refine sv_ret (P := DD K (.bool false)) a1 ed_bl fun v1 B2 H2 e2 a2 h2 => ?_
      obtain rfl := dd_bl h2
      refine fin _ B2 H2 a2 ?_
      cases d <;> first | rfl | cases hs' 
theorem tup_is {d : PyData} (h : isTupD d = true) : ∃ ds, d = .tuple ds := by
  cases d with
  | tuple ds => exact ⟨ds, rfl⟩
  | _ => cases h
end
end K20

namespace K20
open PySem PySem.Spec PyProof.Rows L2 Evl Ex Dx
open PySem.PyData (strOk)

section
variable {P : Program} {w : World} {K : PySem.W.Frag} {mg : Str → Option Value} {base : Heap} {f : Addr} {fd : FuncData}

abbrev s_law_whole : Stmt := topS 33
abbrev N_law_whole : List Str := ["value"]
theorem sc_law_whole : FnScope N_law_whole ["value"] (defScope s_law_whole) := ⟨rfl, rfl, rfl, by decide +kernel, rfl, by decide +kernel, by decide +kernel⟩
theorem ok_law_whole (F : Fun K "_law_whole" "_law_whole" s_law_whole f fd) (T : TC K mg) : FnOk P w K mg base CX0 1 f fd ["value"] (spInt K) := by
  refine F.ok sc_law_whole (fun vs H Q E h => ?_) (fun cdv A outer s H vs Q E hr h => ?_)
  · obtain ⟨B, ds, e, hd, ⟨d, rfl⟩, q⟩ := h
    exact hd.len
  · obtain ⟨B, ds, e, hd, ⟨d, rfl⟩, q⟩ := h
    obtain ⟨v, rfl, hv⟩ := arg1 hd
    refine ⟨_, (pss_one (ps_ret (pe_and (pe_callB (call_isiK1 K) (by rfl) T.m_isinstance bt_isinstance (pa_cons (pv 0) (pa_cons (pe_bltn (v := .ty "int") (by rfl) T.m_int bt_int rfl) pa_nil))) (pe_one (pe_not (pe_callB (call_isiK1 K) (by rfl) T.m_isinstance bt_isinstance (pa_cons (pv 0) (pa_cons (pe_bltn (v := .ty "bool") (by rfl) T.m_bool bt_bool rfl) pa_nil)))))))), ?_⟩
    have a : At Fm.pure B H B H := At.start (Ok.any e)
    have e2 : (isIntD d && !isBoolD d) = isI d := by cases d <;> rfl
    refine sv_ret (P := DD K (.bool (isI d))) a (ed_is (ed_andV (ed_isi (ed_var rfl hv) (kit_int d)) (fun _ => ed_notV (ed_isi (ed_var rfl hv) (kit_bool d)))) (by rw [e2])) fun v B1 H1 e1 a1 h1 => ?_
    exact q v B1 H1 a1.st h1
theorem isI_is {d : PyData} (h : isI d = true) : ∃ i, d = .int i := by
  cases d with
  | int i => exact ⟨i, rfl⟩
  | _ => cases h
theorem numsD_tup (ds : List PyData) (n : Int) : numsD (.tuple ds) n = ds.all fun e => inB e 0 (n - 1) := rfl
theorem inB_not (d : PyData) (n : Int) (h : isI d = false) : inB d 0 (n - 1) = false := by
  cases d <;> first | rfl | cases h
abbrev s_law_is_numbers : Stmt := topS 34
abbrev N_law_is_numbers : List Str := ["value", "many", "one"]
theorem sc_law_is_numbers : FnScope N_law_is_numbers ["value", "many"] (defScope s_law_is_numbers) := ⟨rfl, rfl, rfl, by decide +kernel, rfl, by decide +kernel, by decide +kernel⟩
theorem ok_law_is_numbers (F : Fun K "_law_is_numbers" "_law_is_numbers" s_law_is_numbers f fd) (T : TC K mg) (C_law_whole : Callee P w K mg base "_law_whole" 1 ["value"] (spInt K)) : FnOk P w K mg base CX0 2 f fd ["value", "many"] (spF K (fun ds => ∃ d n, ds = [d, .int n] ∧ Sm 60 d) fNums) := by
  refine F.ok sc_law_is_numbers (fun vs H Q E h => ?_) (fun cdv A outer s H vs Q E hr h => ?_)
  · obtain ⟨B, ds, e, hd, ⟨d, n, rfl, hs⟩, q⟩ := h
    exact hd.len
  · obtain ⟨B, ds, e, hd, ⟨d, n, rfl, hs⟩, q⟩ := h
    obtain ⟨v, v2, rfl, hv, hn⟩ := arg2 hd
    obtain rfl := dd_int hn
    have hu64 : (A.deeper (envOfC "_law_is_numbers" (defScope s_law_is_numbers) s.heap.objs.size f cdv)).units + 64 < cLine := hr.units
    refine ⟨_, (pss_cons (ps_if (pt_not (pt_val (pe_callB (call_isiK1 K) (by rfl) T.m_isinstance bt_isinstance (pa_cons (pv 0) (pa_cons (pe_bltn (v := .ty "tuple") (by rfl) T.m_tuple bt_tuple rfl) pa_nil))))) (pss_one (ps_ret pe_bl)) pss_nil)
      (pss_one (ps_ret (pe_cmpR (op_eqDK K hu64) (pe_lc (own := [("one", 2)]) rfl sc_law_is_numbers.nd (pi_seqK K (pv 0)) (blkOk_by (own := [("one", 2)]) (N := N_law_is_numbers) (sc := defScope s_law_is_numbers) (by decide +kernel)) (fun _ _ _ _ _ => pg_name (i := 2) sc_law_is_numbers.nd rfl (Or.inl rfl)) (fun _ _ _ _ _ => (pts_one (PW.pt (pw_or (pt_not (pt_val (pe_callC C_law_whole (hr.mono (by decide)) rfl pass0 (pa_cons (pv 2) pa_nil)))) (pw_or (pt_cmpR op_lt (pv 2) pe_int (nomark _)) (pw_or1 (pt_cmpR op_ge (pv 2) (pv 1) (nomark _)))))))) (fun _ _ _ _ _ => (pv 2))) (pe_lst pa_nil) (nomark _))))), ?_⟩
    have a : At Fm.pure B H B H := At.start (Ok.any e)
    have fin : ∀ b B1 H1, At Fm.pure B H B1 H1 → b = numsD d n → Q (.bl b) H1 := fun b B1 H1 a1 eb => by
      refine q _ B1 H1 a1.st ?_
      show Dd K B1 (.bl b) (.bool (numsD d n))
      rw [eb]
      exact .bl _

    refine qv_when (b := !isTupD d) a (et_not (et_val (ed_isi (ed_var rfl hv) (kit_tup _)))) (fun hb B1 H1 e1 a1 => ?_) (fun hb B1 H1 e1 a1 => ?_)
    · refine sv_ret (P := DD K (.bool false)) a1 ed_bl fun v1 B2 H2 e2 a2 h2 => ?_
      obtain rfl := dd_bl h2
      refine fin _ B2 H2 a2 ?_
      cases d <;> first | rfl | cases hb
    · obtain ⟨xs, rfl⟩ := tup_is (by simpa using hb)
      have hz : xs.length ≤ 16777216 := by
        obtain ⟨p, us, _, _, l1, g1⟩ := dd_tup hv
        rw [← g1.len, ← sizeLine_eq]
        exact l1
      refine sv_ret (P := DD K (.bool (numsD (.tuple xs) n))) a1 (ed_is (ed_op (ed_lcD (fun d => !inB d 0 (n - 1)) (fun d => d) (ev_seqT (ed_var rfl (hv.up e1))) hz (fun _ => rfl) (fun d v B2 _ _ hdv => ?_) (fun d v B2 _ _ _ hdv => ed_var rfl hdv)) (ed_lst eds_nil) (rd_eqD (Sm.sh (sm_filter (n := 59) fun d hd => hs.memT hd)) rfl)) ?_) fun v1 B2 H2 e2 a2 h2 => ?_
      · refine et_is (et_or (b := !isI d) (c := !inB d 0 (n - 1)) (et_not (et_val (ed_F (eds_cons (ed_var rfl hdv) eds_nil) ⟨_, rfl⟩ rfl))) fun hi => ?_) ?_
        · obtain ⟨i, rfl⟩ := isI_is (by simpa using hi)
          refine et_is (et_or (et_cmp (ed_op (ed_var rfl hdv) ed_int rd_lt)) fun _ => et_cmp (ed_op (ed_var rfl hdv) (ed_var rfl (.int n)) rd_ge)) ?_
          show (decide (i < 0) || decide (n ≤ i)) = !(decide (0 ≤ i) && decide (i ≤ n - 1))
          rw [Bool.eq_iff_iff]
          simp only [Bool.or_eq_true, decide_eq_true_eq, Bool.not_eq_true', Bool.and_eq_false_iff, decide_eq_false_iff_not]
          omega
        · cases h : isI d with
          | true => rfl
          | false => rw [inB_not d n h]; rfl
      · rw [eqv_nil, List.map_id', filter_emp, numsD_tup]
        simp only [Bool.not_not]
      · obtain rfl := dd_bl h2
        exact fin _ B2 H2 a2 rfl
abbrev s_law_is_due : Stmt := topS 35
abbrev N_law_is_due : List Str := ["told", "due"]
theorem sc_law_is_due : FnScope N_law_is_due ["told", "due"] (defScope s_law_is_due) := ⟨rfl, rfl, rfl, by decide +kernel, rfl, by decide +kernel, by decide +kernel⟩
def fIs : List PyData → PyData
  | [.bool a, .bool b] => .bool (a == b)
  | _ => .none
theorem ok_law_is_due (F : Fun K "_law_is_due" "_law_is_due" s_law_is_due f fd) (T : TC K mg) : FnOk P w K mg base CX0 1 f fd ["told", "due"] (spF K (fun ds => ∃ a b, ds = [.bool a, .bool b]) fIs) := by
  refine F.ok sc_law_is_due (fun vs H Q E h => ?_) (fun cdv A outer s H vs Q E hr h => ?_)
  · obtain ⟨B, ds, e, hd, ⟨x, y, rfl⟩, q⟩ := h
    exact hd.len
  · obtain ⟨B, ds, e, hd, ⟨x, y, rfl⟩, q⟩ := h
    obtain ⟨v, v2, rfl, hv, hn⟩ := arg2 hd
    obtain rfl := dd_bl hn
    obtain rfl := dd_bl hv
    refine ⟨_, (pss_one (ps_ret (pe_ifExp (pt_tru K (pv 1)) (pe_cmpR op_isBl (pv 0) pe_bl (nomark _)) (pe_cmpR op_isBl (pv 0) pe_bl (nomark _))))), ?_⟩
    have a : At Fm.pure B H B H := At.start (Ok.any e)

    refine sv_ret (P := DD K (.bool (x == y))) a (ev_if (et_tru (ed_var rfl (.bl y))) (fun hy => ed_is (ed_op (ed_var rfl (.bl x)) ed_bl rd_isB) ?_) (fun hy => ed_is (ed_op (ed_var rfl (.bl x)) ed_bl rd_isB) ?_)) fun v1 B2 H2 e2 a2 h2 => ?_
    · have hy' : y = true := hy
      subst hy'
      cases x <;> rfl
    · have hy' : y = false := hy
      subst hy'
      cases x <;> rfl
    · exact q _ B2 H2 a2.st h2
abbrev s_law_is_word : Stmt := topS 39
abbrev N_law_is_word : List Str := ["value", "sign"]
theorem sc_law_is_word : FnScope N_law_is_word ["value"] (defScope s_law_is_word) := ⟨rfl, rfl, rfl, by decide +kernel, rfl, by decide +kernel, by decide +kernel⟩
theorem in123 (n : Nat) : inD (.int (n : Nat)) [.int 1, .int 2, .int 3] = (decide ((1 : Int) ≤ (n : Nat)) && decide (((n : Nat) : Int) ≤ 3)) := by
  unfold inD
  simp only [List.any_cons, List.any_nil, eqv_int, Bool.or_false]
  rw [Bool.eq_iff_iff]
  simp only [Bool.or_eq_true, beq_iff_eq, Bool.and_eq_true, decide_eq_true_eq]
  omega
theorem ok_law_is_word (F : Fun K "_law_is_word" "_law_is_word" s_law_is_word f fd) (T : TC K mg) : FnOk P w K mg base CX0 1 f fd ["value"] (spF K (fun ds => ∃ d, ds = [d] ∧ Sm 60 d) fWord) := by
  refine F.ok sc_law_is_word (fun vs H Q E h => ?_) (fun cdv A outer s H vs Q E hr h => ?_)
  · obtain ⟨B, ds, e, hd, ⟨d, rfl, hs⟩, q⟩ := h
    exact hd.len
  · obtain ⟨B, ds, e, hd, ⟨d, rfl, hs⟩, q⟩ := h
    obtain ⟨v, rfl, hv⟩ := arg1 hd
    have hu64 : (A.deeper (envOfC "_law_is_word" (defScope s_law_is_word) s.heap.objs.size f cdv)).units + 64 < cLine := hr.units
    refine ⟨_, (pss_one (ps_ret (pe_and (pe_callB (call_isiK1 K) (by rfl) T.m_isinstance bt_isinstance (pa_cons (pv 0) (pa_cons (pe_bltn (v := .ty "str") (by rfl) T.m_str bt_str rfl) pa_nil))) (pe_and (pe_cmpR (op_inK K) (pe_callB (call_lenK K) (by rfl) T.m_len bt_len (pa_cons (pv 0) pa_nil)) (pe_lst (pa_cons pe_int (pa_cons pe_int (pa_cons pe_int pa_nil)))) (by rfl)) (pe_one (pe_cmpR (op_eqDK K hu64) (pe_lc (own := [("sign", 1)]) rfl sc_law_is_word.nd (pi_str (pv 0)) (blkOk_by (own := [("sign", 1)]) (N := N_law_is_word) (sc := defScope s_law_is_word) (by decide +kernel)) (fun _ _ _ _ _ => pg_name (i := 1) sc_law_is_word.nd rfl (Or.inl rfl)) (fun _ _ _ _ _ => (pts_one (PW.pt (pw_or (pt_cmpR op_lt_str (pv 1) pe_str (nomark _)) (pw_or1 (pt_cmpR op_gt_str (pv 1) pe_str (nomark _))))))) (fun _ _ _ _ _ => (pv 1))) (pe_lst pa_nil) (nomark _))))))), ?_⟩
    have a : At Fm.pure B H B H := At.start (Ok.any e)

    refine sv_ret (P := DD K (.bool (wordD d))) a (ed_is (ed_andV (b := isStrD d) (c := wordD d) (ed_isi (ed_var rfl hv) (kit_str d)) fun hb => ?_) ?_) fun v1 B1 H1 e1 a1 h1 => q _ B1 H1 a1.st h1
    · obtain ⟨x, rfl⟩ := isStr_is hb
      have hok := hs.str
      refine ed_is (ed_andV (c := x.cps.toList.all fun c => !loS c && !hiS c) (ed_op (ev_cb (eds_cons (ed_var rfl hv) eds_nil) (rc_len rfl)) (ed_lst (eds_cons ed_int (eds_cons ed_int (eds_cons ed_int eds_nil)))) (rd_isin (.inl rfl) rfl rfl)) fun _ => ?_) ?_
      · refine ed_is (ed_op (ed_lcS (fun c => loS c || hiS c) (fun c => .str (sgn c)) (ed_var rfl hv) (fun _ => rfl) (fun c B2 _ _ => et_or (et_cmp (K := K) (ed_op (ed_var rfl (.str _ (by show 1 ≤ sizeLine; decide))) ed_str rd_ltS)) fun _ => et_cmp (K := K) (ed_op (ed_var rfl (.str _ (by show 1 ≤ sizeLine; decide))) ed_str rd_gtS)) (fun c B2 _ _ e2 => ed_var rfl (.str _ (by show 1 ≤ sizeLine; decide)))) (ed_lst eds_nil) (rd_eqD (Sm.sh (sm_lst (n := 1) fun d hd => ?_)) rfl)) ?_
        · obtain ⟨c, hc, rfl⟩ := List.mem_map.mp hd
          exact sm_str (n := 0) (sgn_ok hok (List.mem_filter.mp hc).1)
        · rw [eqv_nil, List.isEmpty_map, filter_emp]
          congr 2
          funext c
          rw [Bool.not_or]
      · rw [wordD_str, ← in123]
        rfl
    · cases d <;> first | rfl | (simp [isStrD])
theorem numsD_one (x : PyData) (n : Int) : numsD (.tuple [x]) n = inB x 0 (n - 1) := by
  rw [numsD_tup, List.all_cons, List.all_nil, Bool.and_true]
end
end K20

namespace K20
open PySem PySem.Spec PyProof.Rows L2 Evl Ex Dx
open PySem.PyData (strOk)

section
variable {P : Program} {w : World} {K : PySem.W.Frag} {mg : Str → Option Value} {base : Heap} {f : Addr} {fd : FuncData}


theorem rc_tupT {F : Fm} {B : Hp} {ds : List PyData} : RDc F K (fun xs H Q => ∃ p ys, xs = [.ref p] ∧ ((SqL K H p ys ∧ ∀ l, H l = none → Q (.ref l) (upd H l (.tup ys))) ∨ (SqT K H p ys ∧ Q (.ref p) H))) B [.tuple ds] (.tuple ds) := fun B1 e0 H us jj hu Q q => by
  obtain ⟨v, rfl, hv⟩ := arg1 hu
  obtain ⟨a, xs, rfl, h1, l1, g1⟩ := dd_tup hv
  exact ⟨a, xs, rfl, .inr ⟨ex_t jj.e h1, q _ B1 H (Step.refl jj.e) jj hv⟩⟩
theorem rc_tupA {F : Fm} {B : Hp} {d : PyData} (h : isTupD d = true) : RDc F K (fun xs H Q => ∃ p ys, xs = [.ref p] ∧ ((SqL K H p ys ∧ ∀ l, H l = none → Q (.ref l) (upd H l (.tup ys))) ∨ (SqT K H p ys ∧ Q (.ref p) H))) B [d] d := by
  obtain ⟨ds, rfl⟩ := tup_is h
  exact rc_tupT
theorem rc_tupL {F : Fm} {B : Hp} {ds : List PyData} : RDc F K (fun xs H Q => ∃ p ys, xs = [.ref p] ∧ ((SqL K H p ys ∧ ∀ l, H l = none → Q (.ref l) (upd H l (.tup ys))) ∨ (SqT K H p ys ∧ Q (.ref p) H))) B [.list ds] (.tuple ds) := fun B1 e0 H us jj hu Q q => by
  obtain ⟨v, rfl, hv⟩ := arg1 hu
  obtain ⟨a, xs, rfl, h1, l1, g1⟩ := dd_lst hv
  exact ⟨a, xs, rfl, .inl ⟨sq_of (jj.e _ _ h1), fun l hl => q _ _ _ (Step.alloc jj.e hl) (jj.alloc hl) (.tup (st_of upd_same) l1 (g1.up (Ex.new (fresh_back jj.e hl))))⟩⟩
theorem rc_lstT {F : Fm} {B : Hp} {ds : List PyData} : RDc F K (fun xs H Q => ∃ p ys, xs = [.ref p] ∧ (SqL K H p ys ∨ SqT K H p ys) ∧ ∀ l, H l = none → Q (.ref l) (upd H l (.lst ys))) B [.tuple ds] (.list ds) := fun B1 e0 H us jj hu Q q => by
  obtain ⟨v, rfl, hv⟩ := arg1 hu
  obtain ⟨a, xs, rfl, h1, l1, g1⟩ := dd_tup hv
  exact ⟨a, xs, rfl, .inr (ex_t jj.e h1), fun l hl => q _ _ _ (Step.alloc jj.e hl) (jj.alloc hl) (.lst upd_same l1 (g1.up (Ex.new (fresh_back jj.e hl))))⟩
theorem call_tuple_ofK {X : Cx} (K : PySem.W.Frag) (hK : X.K = K := by rfl) : CallR X (.type "tuple") (fun xs H Q => ∃ p ys, xs = [.ref p] ∧ ((SqL K H p ys ∧ ∀ l, H l = none → Q (.ref l) (upd H l (.tup ys))) ∨ (SqT K H p ys ∧ Q (.ref p) H))) := by subst hK; exact call_tuple_of
theorem call_list_ofK {X : Cx} (K : PySem.W.Frag) (hK : X.K = K := by rfl) : CallR X (.type "list") (fun xs H Q => ∃ p ys, xs = [.ref p] ∧ (SqL K H p ys ∨ SqT K H p ys) ∧ ∀ l, H l = none → Q (.ref l) (upd H l (.lst ys))) := by subst hK; exact call_list_of


theorem bgK_tup (x : PyData) (ps : List PyData) (n : Int) : bgK (.tuple (x :: ps)) n = (if isS x "foot" = true then decide (ps.length = 0) else if isS x "word" = true then decide (ps.length = 1) && wordD (ps.getD 0 .none)
    else if isS x "plain" = true then decide (ps.length = 1) && isTupD (ps.getD 0 .none) else if isS x "graft" = true then decide (ps.length = 2) && (inB (ps.getD 0 .none) 0 (n - 1) && isTupD (ps.getD 1 .none)) else false) := by
  cases x <;> first | rfl | skip
theorem len_ps (x : PyData) (ps : List PyData) (k : Nat) : PyData.eqv (.int (lenD (.tuple (x :: ps)))) (.int ((k : Int) + 1)) = decide (ps.length = k) := by
  rw [eqv_int]
  show ((((ps.length + 1 : Nat)) : Int) == (k : Int) + 1) = decide (ps.length = k)
  rw [Bool.eq_iff_iff, beq_iff_eq, decide_eq_true_eq]
  omega
def fBg : List PyData → PyData
  | [d, .int n] => .bool (bgK d n)
  | _ => .none
theorem atc_0 {x : PyData} {ps : List PyData} : atI (x :: ps) 0 = some x := atI_nat (j := 0) rfl
theorem atc_1 {x y : PyData} {ps : List PyData} : atI (x :: y :: ps) 1 = some y := atI_nat (j := 1) rfl
theorem atc_2 {x y z : PyData} {ps : List PyData} : atI (x :: y :: z :: ps) 2 = some z := atI_nat (j := 2) rfl
theorem one_ps {ps : List PyData} (h : decide (ps.length = 1) = true) : ∃ p, ps = [p] := List.length_eq_one_iff.mp (of_decide_eq_true h)
theorem two_ps {ps : List PyData} (h : decide (ps.length = 2) = true) : ∃ p q, ps = [p, q] := by
  have h' := of_decide_eq_true h
  rcases ps with _ | ⟨p, _ | ⟨q, _ | ⟨r, ps⟩⟩⟩
  · simp at h'
  · simp at h'
  · exact ⟨p, q, rfl⟩
  · simp at h'
theorem sm_hd {m : Nat} {x : PyData} {ps : List PyData} (h : Sm m (.tuple (x :: ps))) : Sm (m - 1) x := h.memT List.mem_cons_self

abbrev s_begins_knot : Stmt := topS 13
abbrev N_begins_knot : List Str := ["value", "kinds"]
theorem sc_begins_knot : FnScope N_begins_knot ["value", "kinds"] (defScope s_begins_knot) := ⟨rfl, rfl, rfl, by decide +kernel, rfl, by decide +kernel, by decide +kernel⟩
theorem ok_begins_knot (F : Fun K "begins_knot" "begins_knot" s_begins_knot f fd) (T : TC K mg) (C_is_between : Callee P w K mg base "is_between" 2 ["value", "low", "high"] (spBetween K)) (C_is_word : Callee P w K mg base "is_word" 1 ["value"] (spF K pre1 fWord)) : FnOk P w K mg base CX0 3 f fd ["value", "kinds"] (spF K (fun ds => ∃ d n, ds = [d, .int n] ∧ Sm 60 d) fBg) := by
  refine F.ok sc_begins_knot (fun vs H Q E h => ?_) (fun cdv A outer s H vs Q E hr h => ?_)
  · obtain ⟨B, ds, e, hd, ⟨d, n, rfl, _⟩, q⟩ := h
    exact hd.len
  · obtain ⟨B, ds, e, hd, ⟨d, n, rfl, hs⟩, q⟩ := h
    obtain ⟨v, v2, rfl, hv, hn⟩ := arg2 hd
    obtain rfl := dd_int hn
    have hu64 : (A.deeper (envOfC "begins_knot" (defScope s_begins_knot) s.heap.objs.size f cdv)).units + 64 < cLine := hr.units
    refine ⟨_, (pss_cons (ps_if (PW.pt (pw_or (pt_not (pt_val (pe_callB (call_isiK1 K) (by rfl) T.m_isinstance bt_isinstance (pa_cons (pv 0) (pa_cons (pe_bltn (v := .ty "tuple") (by rfl) T.m_tuple bt_tuple rfl) pa_nil))))) (pw_or1 (pt_cmpR (op_eqDK K hu64) (pe_callB (call_lenK K) (by rfl) T.m_len bt_len (pa_cons (pv 0) pa_nil)) pe_int (nomark _))))) (pss_one (ps_ret pe_bl)) pss_nil)
      (pss_cons (ps_if (pt_cmpR (op_eqDK K hu64) (pe_ix (ix_seqK K) (pv 0) pe_int (fun _ _ => rfl)) pe_str (nomark _)) (pss_one (ps_ret (pe_cmpR (op_eqDK K hu64) (pe_callB (call_lenK K) (by rfl) T.m_len bt_len (pa_cons (pv 0) pa_nil)) pe_int (nomark _)))) pss_nil)
      (pss_cons (ps_if (pt_cmpR (op_eqDK K hu64) (pe_ix (ix_seqK K) (pv 0) pe_int (fun _ _ => rfl)) pe_str (nomark _)) (pss_one (ps_ret (pe_and (pe_cmpR (op_eqDK K hu64) (pe_callB (call_lenK K) (by rfl) T.m_len bt_len (pa_cons (pv 0) pa_nil)) pe_int (nomark _)) (pe_one (pe_callC C_is_word (hr.mono (by decide)) rfl pass0 (pa_cons (pe_ix (ix_seqK K) (pv 0) pe_int (fun _ _ => rfl)) pa_nil)))))) pss_nil)
      (pss_cons (ps_if (pt_cmpR (op_eqDK K hu64) (pe_ix (ix_seqK K) (pv 0) pe_int (fun _ _ => rfl)) pe_str (nomark _)) (pss_one (ps_ret (pe_and (pe_cmpR (op_eqDK K hu64) (pe_callB (call_lenK K) (by rfl) T.m_len bt_len (pa_cons (pv 0) pa_nil)) pe_int (nomark _)) (pe_one (pe_callB (call_isiK1 K) (by rfl) T.m_isinstance bt_isinstance (pa_cons (pe_ix (ix_seqK K) (pv 0) pe_int (fun _ _ => rfl)) (pa_cons (pe_bltn (v := .ty "tuple") (by rfl) T.m_tuple bt_tuple rfl) pa_nil))))))) pss_nil)
      (pss_cons (ps_if (pt_cmpR (op_eqDK K hu64) (pe_ix (ix_seqK K) (pv 0) pe_int (fun _ _ => rfl)) pe_str (nomark _)) (pss_one (ps_ret (pe_and (pe_cmpR (op_eqDK K hu64) (pe_callB (call_lenK K) (by rfl) T.m_len bt_len (pa_cons (pv 0) pa_nil)) pe_int (nomark _)) (pe_and (pe_callC C_is_between (hr.mono (by decide)) rfl pass0 (pa_cons (pe_ix (ix_seqK K) (pv 0) pe_int (fun _ _ => rfl)) (pa_cons pe_int (pa_cons (pe_op op_sub (pv 1) pe_int) pa_nil)))) (pe_one (pe_callB (call_isiK1 K) (by rfl) T.m_isinstance bt_isinstance (pa_cons (pe_ix (ix_seqK K) (pv 0) pe_int (fun _ _ => rfl)) (pa_cons (pe_bltn (v := .ty "tuple") (by rfl) T.m_tuple bt_tuple rfl) pa_nil)))))))) pss_nil)
      (pss_one (ps_ret pe_bl))))))), ?_⟩
    have a : At Fm.pure B H B H := At.start (Ok.any e)
    have fin : ∀ b B1 H1, At Fm.pure B H B1 H1 → b = bgK d n → Q (.bl b) H1 := fun b B1 H1 a1 eb => by
      refine q _ B1 H1 a1.st ?_
      show Dd K B1 (.bl b) (.bool (bgK d n))
      rw [eb]
      exact .bl _
    have bad : ∀ (D : Ends) B1 H1, Ex B B1 → At Fm.pure B H B1 H1 → D.rt = Q → bgK d n = false → tRet (tC (.bl false)) D [some v, some (.int n)] H1 := fun D B1 H1 e1 a1 hD hb => by
      refine sv_ret (P := DD K (.bool false)) a1 ed_bl fun v1 B2 H2 e2 a2 h2 => ?_
      obtain rfl := dd_bl h2
      rw [hD]
      exact fin _ B2 H2 a2 hb.symm
    by_cases ht : isTupD d = true
    · obtain ⟨ds, rfl⟩ := isTup_is ht
      cases ds with
      | nil =>
        refine qv_when (b := true) a (et_is (et_or (b := false) (et_not (et_val (ed_isi (ed_var rfl hv) (kit_tup _)))) fun _ => et_cmp (ed_op (ev_cb (eds_cons (ed_var rfl hv) eds_nil) (rc_len (x := .tuple []) rfl)) ed_int (rd_eqD rfl rfl))) (by decide +kernel)) (fun hb B1 H1 e1 a1 => bad _ B1 H1 e1 a1 rfl rfl) (fun h => nomatch h)
      | cons x ps =>
        have ln : ∀ B1, Ex B B1 → ED Fm.pure K (tCB (rLnK K) (tCons (tVar 0) tNil)) [some v, some (.int n)] B1 (.int (lenD (.tuple (x :: ps)))) := fun B1 e1 => ev_cb (eds_cons (ed_var rfl (hv.up e1)) eds_nil) (rc_len rfl)
        have i0 : ∀ B1, Ex B B1 → ED Fm.pure K (tOp (rIx K) (tVar 0) (tC (.int 0))) [some v, some (.int n)] B1 x := fun B1 e1 => ed_op (ed_var rfl (hv.up e1)) ed_int (rd_ixT atc_0)
        have sx : SeqAt.shaped x = true := (sm_hd hs).sh
        have tS : ∀ B1 (s : Str), Ex B B1 → s.length ≤ sizeLine → SeqAt.shaped (.str s) = true → ETt Fm.pure (tTest (tOp (rEqD K) (tOp (rIx K) (tVar 0) (tC (.int 0))) (tC (.str s)))) [some v, some (.int n)] B1 (isS x s) := fun B1 s e1 hl hsh => et_is (et_cmp (ed_op (i0 B1 e1) (ed_str hl) (rd_eqD sx hsh))) (eqv_isS x s)
        refine qv_when (b := false) a (et_is (et_or (b := false) (et_not (et_val (ed_isi (ed_var rfl hv) (kit_tup _)))) fun _ => et_is (et_cmp (ed_op (ln B (Ex.refl B)) ed_int (rd_eqD rfl rfl))) (by rw [eqv_int]; show ((((ps.length + 1 : Nat)) : Int) == 0) = false; exact beq_eq_false_iff_ne.mpr (by omega))) rfl) (fun h => nomatch h) (fun hb B1 H1 e1 a1 => ?_)
        have bt := bgK_tup x ps n
        refine qv_when (b := isS x "foot") a1 (tS B1 "foot" e1 (by decide) (by decide +kernel)) (fun hf B2 H2 e2 a2 => ?_) (fun hf B2 H2 e2 a2 => ?_)
        · rw [if_pos hf] at bt
          refine sv_ret (P := DD K (.bool (bgK (.tuple (x :: ps)) n))) a2 (ed_is (ed_op (ln B2 (e1.trans e2)) ed_int (rd_eqD rfl rfl)) (by rw [bt, ← len_ps x ps 0]; rfl)) fun v1 B3 H3 e3 a3 h3 => ?_
          obtain rfl := dd_bl h3
          exact fin _ B3 H3 a3 rfl
        rw [if_neg (by rw [hf]; decide)] at bt
        have e12 := e1.trans e2
        refine qv_when (b := isS x "word") a2 (tS B2 "word" e12 (by decide) (by decide +kernel)) (fun hf B3 H3 e3 a3 => ?_) (fun hf B3 H3 e3 a3 => ?_)
        · rw [if_pos hf] at bt
          refine sv_ret (P := DD K (.bool (bgK (.tuple (x :: ps)) n))) a3 (ed_is (ed_andV (b := decide (ps.length = 1)) (c := wordD (ps.getD 0 .none)) (ed_is (ed_op (ln B3 (e12.trans e3)) ed_int (rd_eqD rfl rfl)) (by rw [← len_ps x ps 1]; rfl)) fun hl => ?_) (by rw [bt])) fun v1 B4 H4 e4 a4 h4 => ?_
          · obtain ⟨p, rfl⟩ := one_ps hl
            exact ed_F (eds_cons (ed_op (ed_var rfl (hv.up (e12.trans e3))) ed_int (rd_ixT atc_1)) eds_nil) ⟨_, rfl⟩ rfl
          · obtain rfl := dd_bl h4
            exact fin _ B4 H4 a4 rfl
        rw [if_neg (by rw [hf]; decide)] at bt
        have e13 := e12.trans e3
        refine qv_when (b := isS x "plain") a3 (tS B3 "plain" e13 (by decide) (by decide +kernel)) (fun hf B4 H4 e4 a4 => ?_) (fun hf B4 H4 e4 a4 => ?_)
        · rw [if_pos hf] at bt
          refine sv_ret (P := DD K (.bool (bgK (.tuple (x :: ps)) n))) a4 (ed_is (ed_andV (b := decide (ps.length = 1)) (c := isTupD (ps.getD 0 .none)) (ed_is (ed_op (ln B4 (e13.trans e4)) ed_int (rd_eqD rfl rfl)) (by rw [← len_ps x ps 1]; rfl)) fun hl => ?_) (by rw [bt])) fun v1 B5 H5 e5 a5 h5 => ?_
          · obtain ⟨p, rfl⟩ := one_ps hl
            exact ed_isi (ed_op (ed_var rfl (hv.up (e13.trans e4))) ed_int (rd_ixT atc_1)) (kit_tup p)
          · obtain rfl := dd_bl h5
            exact fin _ B5 H5 a5 rfl
        rw [if_neg (by rw [hf]; decide)] at bt
        have e14 := e13.trans e4
        refine qv_when (b := isS x "graft") a4 (tS B4 "graft" e14 (by decide) (by decide +kernel)) (fun hf B5 H5 e5 a5 => ?_) (fun hf B5 H5 e5 a5 => ?_)
        · rw [if_pos hf] at bt
          refine sv_ret (P := DD K (.bool (bgK (.tuple (x :: ps)) n))) a5 (ed_is (ed_andV (b := decide (ps.length = 2)) (c := inB (ps.getD 0 .none) 0 (n - 1) && isTupD (ps.getD 1 .none)) (ed_is (ed_op (ln B5 (e14.trans e5)) ed_int (rd_eqD rfl rfl)) (by rw [← len_ps x ps 2]; rfl)) fun hl => ?_) (by rw [bt])) fun v1 B6 H6 e6 a6 h6 => ?_
          · obtain ⟨p, p2, rfl⟩ := two_ps hl
            refine ed_andV (b := inB p 0 (n - 1)) (c := isTupD p2) (ed_F (eds_cons (ed_op (ed_var rfl (hv.up (e14.trans e5))) ed_int (rd_ixT atc_1)) (eds_cons ed_int (eds_cons (ed_op (ed_var rfl (.int n)) ed_int rd_sub) eds_nil))) ⟨_, _, _, rfl⟩ rfl) fun _ => ed_isi (ed_op (ed_var rfl (hv.up (e14.trans e5))) ed_int (rd_ixT atc_2)) (kit_tup p2)
          · obtain rfl := dd_bl h6
            exact fin _ B6 H6 a6 rfl
        rw [if_neg (by rw [hf]; decide)] at bt
        exact bad _ B5 H5 (e14.trans e5) a5 rfl bt
    · have ht' : isTupD d = false := by simpa using ht
      refine qv_when (b := true) a (et_is (et_or (b := !isTupD d) (c := true) (et_not (et_val (ed_isi (ed_var rfl hv) (kit_tup _)))) fun h => by rw [ht'] at h; cases h) (by rw [ht']; rfl)) (fun hb B1 H1 e1 a1 => bad _ B1 H1 e1 a1 rfl (by cases d <;> first | rfl | cases ht')) (fun h => nomatch h)

abbrev s_knots_in : Stmt := topS 14
abbrev N_knots_in : List Str := ["knot"]
theorem sc_knots_in : FnScope N_knots_in ["knot"] (defScope s_knots_in) := ⟨rfl, rfl, rfl, by decide +kernel, rfl, by decide +kernel, by decide +kernel⟩
def fKids : List PyData → PyData
  | [d] => .tuple (kidsD d)
  | _ => .none
def preKn (ds : List PyData) : Prop := ∃ d n, ds = [d] ∧ Kn n d
theorem isS_lit {x y : Str} {b : Bool} (h : (x == y) = b) : PyData.eqv (.str x) (.str y) = b := (eqv_str x y).trans h
theorem ok_knots_in (F : Fun K "knots_in" "knots_in" s_knots_in f fd) (T : TC K mg) : FnOk P w K mg base CX0 1 f fd ["knot"] (spF K preKn fKids) := by
  refine F.ok sc_knots_in (fun vs H Q E h => ?_) (fun cdv A outer s H vs Q E hr h => ?_)
  · obtain ⟨B, ds, e, hd, ⟨d, n, rfl, _⟩, q⟩ := h
    exact hd.len
  · obtain ⟨B, ds, e, hd, ⟨d, n, rfl, hk⟩, q⟩ := h
    obtain ⟨v, rfl, hv⟩ := arg1 hd
    have hu64 : (A.deeper (envOfC "knots_in" (defScope s_knots_in) s.heap.objs.size f cdv)).units + 64 < cLine := hr.units
    refine ⟨_, (pss_cons (ps_if (pt_cmpR (op_eqDK K hu64) (pe_ix (ix_seqK K) (pv 0) pe_int (fun _ _ => rfl)) pe_str (nomark _)) (pss_one (ps_ret (pe_ix (ix_seqK K) (pv 0) pe_int (fun _ _ => rfl)))) pss_nil)
      (pss_one (ps_ret (pe_ifExp (pt_cmpR (op_eqDK K hu64) (pe_ix (ix_seqK K) (pv 0) pe_int (fun _ _ => rfl)) pe_str (nomark _)) (pe_ix (ix_seqK K) (pv 0) pe_int (fun _ _ => rfl)) (pe_tup pa_nil))))), ?_⟩
    have a : At Fm.pure B H B H := At.start (Ok.any e)
    have go : ∀ (s : Str) (ps : List PyData), d = .tuple (.str s :: ps) → SeqAt.shaped (.str s) = true → ((s == ("plain" : Str)) = true → ∃ ks, ps = [.tuple ks] ∧ kidsD d = ks) → ((s == ("plain" : Str)) = false → (s == ("graft" : Str)) = true → ∃ k ks, ps = [k, .tuple ks] ∧ kidsD d = ks) → ((s == ("plain" : Str)) = false → (s == ("graft" : Str)) = false → kidsD d = []) →
        tSeq (tIfS (tTest (tOp (rEqD K) (tOp (rIx K) (tVar 0) (tC (.int 0))) (tC (.str "plain")))) (tRet (tOp (rIx K) (tVar 0) (tC (.int 1)))) tNext) (tRet (tIf (tTest (tOp (rEqD K) (tOp (rIx K) (tVar 0) (tC (.int 0))) (tC (.str "graft")))) (tOp (rIx K) (tVar 0) (tC (.int 2))) (tTup tNil))) { nx := fun x H' => Q .non H', rt := Q } (start N_knots_in [v]) H := by
      rintro s ps rfl hsh hp hg h0
      refine qv_when (b := s == ("plain" : Str)) a (et_is (et_cmp (ed_op (ed_op (ed_var rfl hv) ed_int (rd_ixT atc_0)) ed_str (rd_eqD hsh (by decide +kernel)))) (eqv_str _ _)) (fun hb B1 H1 e1 a1 => ?_) (fun hb B1 H1 e1 a1 => ?_)
      · obtain ⟨ks, rfl, hks⟩ := hp hb
        refine sv_ret (P := DD K (.tuple ks)) a1 (ed_op (ed_var rfl (hv.up e1)) ed_int (rd_ixT atc_1)) fun v1 B2 H2 e2 a2 h2 => q v1 B2 H2 a2.st ?_
        show Dd K B2 v1 (.tuple (kidsD _))
        rw [hks]
        exact h2
      · refine sv_ret (P := DD K (.tuple (kidsD (.tuple (.str s :: ps))))) a1 (ev_if (b := s == ("graft" : Str)) (et_is (et_cmp (ed_op (ed_op (ed_var rfl (hv.up e1)) ed_int (rd_ixT atc_0)) ed_str (rd_eqD hsh (by decide +kernel)))) (eqv_str _ _)) (fun hb2 => ?_) (fun hb2 => ?_)) fun v1 B2 H2 e2 a2 h2 => q v1 B2 H2 a2.st h2
        · obtain ⟨k, ks, rfl, hks⟩ := hg hb hb2
          rw [hks]
          exact ed_op (ed_var rfl (hv.up e1)) ed_int (rd_ixT atc_2)
        · rw [h0 hb hb2]
          exact ed_tup eds_nil
    cases hk with
    | foot => exact go "foot" [] rfl (by decide +kernel) (fun h => absurd h (by decide +kernel)) (fun _ h => absurd h (by decide +kernel)) (fun _ _ => kids_foot)
    | word w0 _ => exact go "word" [w0] rfl (by decide +kernel) (fun h => absurd h (by decide +kernel)) (fun _ h => absurd h (by decide +kernel)) (fun _ _ => kids_word w0)
    | plain ks => exact go "plain" [.tuple ks] rfl (by decide +kernel) (fun _ => ⟨ks, rfl, kids_plain ks⟩) (fun h _ => absurd h (by decide +kernel)) (fun h _ => absurd h (by decide +kernel))
    | graft k ks _ _ => exact go "graft" [.int k, .tuple ks] rfl (by decide +kernel) (fun h => absurd h (by decide +kernel)) (fun _ _ => ⟨_, ks, rfl, kids_graft _ ks⟩) (fun _ h => absurd h (by decide +kernel))

end
end K20

namespace K20
open PySem PySem.Spec PyProof.Rows L2 Evl Ex Dx
open PySem.PyData (strOk)

section
variable {P : Program} {w : World} {K : PySem.W.Frag} {mg : Str → Option Value} {base : Heap} {f : Addr} {fd : FuncData}

/-! ### all_knots -/
def fAll : List PyData → PyData
  | [d] => .list (ND d)
  | _ => .none
def preA (ds : List PyData) : Prop := ∃ d n, ds = [d] ∧ okN d n = true ∧ Sm 60 d ∧ (ND d).length ≤ 1000
theorem flat_len : ∀ l : List PyData, l.length ≤ (l.flatMap ND).length
  | [] => Nat.zero_le _
  | d :: l => by
    rw [List.flatMap_cons, List.length_append, List.length_cons]
    have := flat_len l
    have := ND_pos d
    omega
theorem kids_len2 {d : PyData} (h : d.depth ≤ 64) : (kidsD d).length < (ND d).length := by
  rw [ND_eq h, List.length_cons]
  have := flat_len (kidsD d)
  omega
theorem Sm.dep {m : Nat} {d : PyData} (h : Sm m d) (hm : m ≤ 64) : d.depth ≤ 64 := Nat.le_trans h.2 hm

abbrev s_all_knots : Stmt := topS 15
abbrev N_all_knots : List Str := ["knot", "found", "waiting", "at"]
theorem sc_all_knots : FnScope N_all_knots ["knot"] (defScope s_all_knots) := ⟨rfl, rfl, rfl, by decide +kernel, rfl, by decide +kernel, by decide +kernel⟩
theorem ok_all_knots (F : Fun K "all_knots" "all_knots" s_all_knots f fd) (T : TC K mg) (C_knots_in : Callee P w K mg base "knots_in" 1 ["knot"] (spF K preKn fKids)) : FnOk P w K mg base CX0 2 f fd ["knot"] (spF K preA fAll) := by
  refine F.ok sc_all_knots (fun vs H Q E h => ?_) (fun cdv A outer s H vs Q E hr h => ?_)
  · obtain ⟨B, ds, e, hd, ⟨d, n, rfl, _⟩, q⟩ := h
    exact hd.len
  · obtain ⟨B, ds, e, hd, ⟨d, n, rfl, hok, hs, hl⟩, q⟩ := h
    obtain ⟨v, rfl, hv⟩ := arg1 hd
    refine ⟨_, (pss_cons (ps_set (i := 1) sc_all_knots.nd rfl (Or.inl rfl) (pe_lst pa_nil))
      (pss_cons (ps_set (i := 2) sc_all_knots.nd rfl (Or.inl rfl) (pe_lst (pa_cons (pv 0) pa_nil)))
      (pss_cons (ps_while PassesOwn.never (pt_tru K (pv 2)) (pss_cons (ps_set (i := 3) sc_all_knots.nd rfl (Or.inl rfl) (pe_bm0 PySem.F.plainAttrs_list PySem.F.slot_list_pop PySem.F.type_list_pop mt_pop (pv 2)))
      (pss_cons (ps_expr (pe_bm PySem.F.plainAttrs_list PySem.F.slot_list_append PySem.F.type_list_append mt_append (pv 1) (pa_cons (pv 3) pa_nil)))
      (pss_one (ps_expr (pe_bm PySem.F.plainAttrs_list PySem.F.slot_list_extend PySem.F.type_list_extend mt_extend (pv 2) (pa_cons (Qx.pe_lstRev K rfl rfl T.m_list rfl T.m_reversed (pe_callC C_knots_in (hr.mono (by decide)) rfl pass0 (pa_cons (pv 3) pa_nil))) pa_nil)))))))
      (pss_one (ps_ret (pv 1)))))), ?_⟩
    refine qs_new (Ok.any e) fun na S0 => ?_
    refine qs_lst (K := K) (ds := [d]) S0 (eds_cons (ed_var rfl hv) eds_nil) (by show 1 ≤ 16777216; decide) fun wa vs0 B1 H1 M0 hvs0 e1 => ?_
    refine ⟨fun m σ' H' => ∃ o B' xs ys st acc, σ' = [some v, some (.ref na), some (.ref wa), o] ∧ M2 B H B' H' na wa xs ys ∧ DdAll K B' xs acc ∧ DdAll K B' ys st.reverse ∧ acc ++ st.flatMap ND = ND d ∧ (∀ y ∈ st, okN y n = true ∧ Sm 60 y) ∧ m = (ND d).length - acc.length, ⟨_, none, B1, [], vs0, [d], [], rfl, M0, .nil, hvs0, by simp, fun y hy => by rw [List.mem_singleton.mp hy]; exact ⟨hok, hs⟩, rfl⟩, ?_⟩
    rintro m σ' H' ⟨o, B', xs, ys, st, acc, rfl, M, hxs, hys, hsum, hst, rfl⟩
    refine ⟨.ref wa, rfl, !st.isEmpty, .inl ⟨ys, sq_of M.hw, ?_⟩, ?_⟩
    · have := hys.len
      rw [List.length_reverse] at this
      cases st <;> cases ys <;> first | rfl | (simp at this)
    cases st with
    | nil =>
      rw [show (!([] : List PyData).isEmpty) = false from rfl, if_neg (by decide)]
      refine ⟨.ref na, rfl, ?_⟩
      rw [List.flatMap_nil, List.append_nil] at hsum
      rw [hsum] at hxs
      obtain ⟨s9, g9⟩ := M.data hxs (by omega)
      exact q (.ref na) _ H' s9 g9
    | cons y st =>
      rw [show (!(y :: st).isEmpty) = true from rfl, if_pos rfl]
      refine ⟨_, fun σ2 H3 q => q, ?_⟩
      rw [List.reverse_cons] at hys
      obtain ⟨ys', vy, rfl, hys', hy⟩ := ddAll_snoc hys
      obtain ⟨hyo, hys0⟩ := hst y List.mem_cons_self
      have hyd := hys0.dep (by decide)
      rw [List.flatMap_cons, ND_eq hyd, ← List.append_assoc] at hsum
      have hsl := congrArg List.length hsum
      simp only [List.length_append, List.length_cons] at hsl
      have hfl := flat_len st
      have hkl := flat_len (kidsD y)
      have hxl := hxs.len
      have hyl := hys'.len
      rw [List.length_reverse] at hyl
      refine qm_pop M rfl fun M1 => ?_
      refine qm_appN (K := K) (d := y) M1 rfl (ed_var rfl hy) (by omega) fun vi B6 H6 M6 e6 hvi => ?_
      refine sm_extL (K := K) (ds := (kidsD y).reverse) M6 rfl (ed_lstRev (ed_F (eds_cons (ed_var rfl (hy.up e6)) eds_nil) ⟨y, n, rfl, okN_kn hyo⟩ rfl)) (by rw [List.length_reverse]; omega) fun vk B7 H7 M7 e7 hvk => ?_
      refine ⟨(ND d).length - (acc ++ [y]).length, by rw [List.length_append, List.length_singleton]; omega, _, B7, _, _, kidsD y ++ st, acc ++ [y], rfl, M7, (((hxs.up e6).snoc hvi).up e7), ?_, ?_, fun z hz => ?_, rfl⟩
      · rw [List.reverse_append]
        exact ((hys'.up e6).up e7).app hvk
      · rw [List.flatMap_append, ← hsum]
        simp only [List.append_assoc, List.cons_append, List.nil_append]
      · rcases List.mem_append.mp hz with h | h
        · exact ⟨okN_kid hyd hyo h, (kids_sm hys0 h).le (by decide)⟩
        · exact hst z (List.mem_cons_of_mem _ h)

abbrev s_graft_kinds : Stmt := topS 18
abbrev N_graft_kinds : List Str := ["knot", "inner"]
theorem sc_graft_kinds : FnScope N_graft_kinds ["knot"] (defScope s_graft_kinds) := ⟨rfl, rfl, rfl, by decide +kernel, rfl, by decide +kernel, by decide +kernel⟩
theorem kn_hd {n : Int} {d : PyData} (h : Kn n d) : ∃ (s : Str) (ps : List PyData), d = .tuple (.str s :: ps) ∧ strOk s = true ∧ s.length ≤ 100 := by
  cases h with
  | foot => exact ⟨_, _, rfl, by decide +kernel, by decide +kernel⟩
  | word w _ => exact ⟨_, _, rfl, by decide +kernel, by decide +kernel⟩
  | plain ks => exact ⟨_, _, rfl, by decide +kernel, by decide +kernel⟩
  | graft k ks _ _ => exact ⟨_, _, rfl, by decide +kernel, by decide +kernel⟩
theorem et_hd {F : Fm} {σ : L2.St} {B : Hp} {i : Nat} {v : V} {n : Int} {d : PyData} {s : Str} (hi : σ[i]? = some (some v)) (hv : Dd K B v d) (h : Kn n d) (hl : s.length ≤ sizeLine) (hs : SeqAt.shaped (.str s) = true) : ETt F (tTest (tOp (rEqD K) (tOp (rIx K) (tVar i) (tC (.int 0))) (tC (.str s)))) σ B (isS (hdD d) s) := by
  obtain ⟨x, ps, rfl, hx, _⟩ := kn_hd h
  exact et_is (et_cmp (ed_op (ed_op (ed_var hi hv) ed_int (rd_ixT atc_0)) (ed_str hl) (rd_eqD (Sm.sh (sm_str (n := 0) hx)) hs))) (eqv_isS _ _)
def gksD (d : PyData) : List PyData := (grafts d).map gkD
def fGk : List PyData → PyData
  | [d] => .list (gksD d)
  | _ => .none
theorem ok_graft_kinds (F : Fun K "graft_kinds" "graft_kinds" s_graft_kinds f fd) (T : TC K mg) (C_all_knots : Callee P w K mg base "all_knots" 2 ["knot"] (spF K preA fAll)) : FnOk P w K mg base CX0 3 f fd ["knot"] (spF K preA fGk) := by
  refine F.ok sc_graft_kinds (fun vs H Q E h => ?_) (fun cdv A outer s H vs Q E hr h => ?_)
  · obtain ⟨B, ds, e, hd, ⟨d, n, rfl, _⟩, q⟩ := h
    exact hd.len
  · obtain ⟨B, ds, e, hd, ⟨d, n, rfl, hok, hs, hl⟩, q⟩ := h
    obtain ⟨v, rfl, hv⟩ := arg1 hd
    have hu64 : (A.deeper (envOfC "graft_kinds" (defScope s_graft_kinds) s.heap.objs.size f cdv)).units + 64 < cLine := hr.units
    refine ⟨_, (pss_one (ps_ret (pe_lc (own := [("inner", 1)]) rfl sc_graft_kinds.nd (pi_seqK K (pe_callC C_all_knots (hr.mono (by decide)) rfl pass0 (pa_cons (pv 0) pa_nil))) (blkOk_by (own := [("inner", 1)]) (N := N_graft_kinds) (sc := defScope s_graft_kinds) (by decide +kernel)) (fun _ _ _ _ _ => pg_name (i := 1) sc_graft_kinds.nd rfl (Or.inl rfl)) (fun _ _ _ _ _ => (pts_one (pt_cmpR (op_eqDK K hu64) (pe_ix (ix_seqK K) (pv 1) pe_int (fun _ _ => rfl)) pe_str (nomark _)))) (fun _ _ _ _ _ => (pe_ix (ix_seqK K) (pv 1) pe_int (fun _ _ => rfl)))))), ?_⟩
    have a : At Fm.pure B H B H := At.start (Ok.any e)
    have ea : ED Fm.pure K (tCall (spF K preA fAll) [] E0 (tCons (tVar 0) tNil)) (start N_graft_kinds [v]) B (.list (ND d)) := ed_F (eds_cons (ed_var rfl hv) eds_nil) ⟨d, n, rfl, hok, hs, hl⟩ rfl
    refine sv_ret (P := DD K (.list (gksD d))) a (ed_lcD (fun y => isS (hdD y) "graft") gkD (ev_seqL ea) (by omega) (fun _ => rfl) (fun y u B2 hm _ hu => et_hd rfl hu (okN_mem hok hm) (by decide) (by decide +kernel)) (fun y u B2 hm hp _ hu => ?_)) fun v1 B2 H2 e2 a2 h2 => q v1 B2 H2 a2.st h2
    obtain ⟨k, ks, rfl, _, _⟩ := graft_is hok (List.mem_filter.mpr ⟨hm, hp⟩)
    exact ed_op (ed_var rfl hu) ed_int (rd_ixT atc_1)

abbrev s_many_words : Stmt := topS 19
abbrev N_many_words : List Str := ["knot", "inner"]
theorem sc_many_words : FnScope N_many_words ["knot"] (defScope s_many_words) := ⟨rfl, rfl, rfl, by decide +kernel, rfl, by decide +kernel, by decide +kernel⟩
def fMw : List PyData → PyData
  | [d] => .int (cnt "word" (ND d) : Nat)
  | _ => .none
theorem cnt_filter (s : Str) (l : List PyData) : (l.filter fun y => isS (hdD y) s).length = cnt s l := (List.countP_eq_length_filter ..).symm
theorem ok_many_words (F : Fun K "many_words" "many_words" s_many_words f fd) (T : TC K mg) (C_all_knots : Callee P w K mg base "all_knots" 2 ["knot"] (spF K preA fAll)) : FnOk P w K mg base CX0 3 f fd ["knot"] (spF K preA fMw) := by
  refine F.ok sc_many_words (fun vs H Q E h => ?_) (fun cdv A outer s H vs Q E hr h => ?_)
  · obtain ⟨B, ds, e, hd, ⟨d, n, rfl, _⟩, q⟩ := h
    exact hd.len
  · obtain ⟨B, ds, e, hd, ⟨d, n, rfl, hok, hs, hl⟩, q⟩ := h
    obtain ⟨v, rfl, hv⟩ := arg1 hd
    have hu64 : (A.deeper (envOfC "many_words" (defScope s_many_words) s.heap.objs.size f cdv)).units + 64 < cLine := hr.units
    refine ⟨_, (pss_one (ps_ret (pe_callB (call_lenK K) (by rfl) T.m_len bt_len (pa_cons (pe_lc (own := [("inner", 1)]) rfl sc_many_words.nd (pi_seqK K (pe_callC C_all_knots (hr.mono (by decide)) rfl pass0 (pa_cons (pv 0) pa_nil))) (blkOk_by (own := [("inner", 1)]) (N := N_many_words) (sc := defScope s_many_words) (by decide +kernel)) (fun _ _ _ _ _ => pg_name (i := 1) sc_many_words.nd rfl (Or.inl rfl)) (fun _ _ _ _ _ => (pts_one (pt_cmpR (op_eqDK K hu64) (pe_ix (ix_seqK K) (pv 1) pe_int (fun _ _ => rfl)) pe_str (nomark _)))) (fun _ _ _ _ _ => (pv 1))) pa_nil)))), ?_⟩
    have a : At Fm.pure B H B H := At.start (Ok.any e)
    have ea : ED Fm.pure K (tCall (spF K preA fAll) [] E0 (tCons (tVar 0) tNil)) (wipe (start N_many_words [v]) [1]) B (.list (ND d)) := ed_F (eds_cons (ed_var rfl hv) eds_nil) ⟨d, n, rfl, hok, hs, hl⟩ rfl
    refine sv_ret (P := DD K (.int (cnt "word" (ND d) : Nat))) a (ed_is (ev_cb (eds_cons (ed_lcD (fun y => isS (hdD y) "word") (fun y => y) (ev_seqL ea) (by omega) (fun _ => rfl) (fun y u B2 hm _ hu => et_hd rfl hu (okN_mem hok hm) (by decide) (by decide +kernel)) (fun y u B2 hm hp _ hu => ed_var rfl hu)) eds_nil) (rc_len rfl)) ?_) fun v1 B2 H2 e2 a2 h2 => q v1 B2 H2 a2.st h2
    rw [List.map_id']
    show PyData.int ((((ND d).filter fun y => isS (hdD y) "word").length : Nat) : Int) = _
    rw [cnt_filter]

end
end K20

namespace K20
open PySem PySem.Spec PyProof.Rows L2 Evl Ex Dx
open PySem.PyData (strOk)

section
variable {P : Program} {w : World} {K : PySem.W.Frag} {mg : Str → Option Value} {base : Heap} {f : Addr} {fd : FuncData}

/-! ### is_tree -/
theorem snoc_of {α : Type} {l : List α} (h : l ≠ []) : ∃ l' x, l = l' ++ [x] := ⟨l.dropLast, l.getLast h, (List.dropLast_concat_getLast h).symm⟩
def shS (y : PyData) : Str := match hdD y with
  | .str s => s
  | _ => ""
theorem shS_hd {n : Int} {y : PyData} (h : Kn n y) : hdD y = .str (shS y) ∧ (shS y).length ≤ 100 := by
  obtain ⟨s, ps, rfl, _, h2⟩ := kn_hd h
  exact ⟨rfl, h2⟩
theorem isS_shS {n : Int} {y : PyData} (h : Kn n y) (s : Str) : isS (hdD y) s = (shS y == s) := by
  rw [(shS_hd h).1]
  rfl
theorem shS_cnt {n : Int} (s : Str) : ∀ {l : List PyData}, (∀ y ∈ l, Kn n y) → (l.map shS).count s = cnt s l
  | [], _ => rfl
  | y :: l, h => by
    unfold cnt
    rw [List.map_cons, List.count_cons, List.countP_cons, shS_cnt s fun z hz => h z (List.mem_cons_of_mem _ hz), isS_shS (h y List.mem_cons_self)]
    rfl
theorem shS_in {n : Int} (s : Str) : ∀ {l : List PyData}, (∀ y ∈ l, Kn n y) → inS s (l.map shS) = l.any fun y => isS (hdD y) s
  | [], _ => rfl
  | y :: l, h => by
    have ih := shS_in s (l := l) fun z hz => h z (List.mem_cons_of_mem _ hz)
    unfold inS at ih ⊢
    rw [List.map_cons, List.any_cons, List.any_cons, ih, isS_shS (h y List.mem_cons_self)]
theorem wgD_or (l : List PyData) : wgD l = ((l.any fun y => isS (hdD y) "word") || l.any fun y => isS (hdD y) "graft") := by
  unfold wgD
  induction l with
  | nil => rfl
  | cons y l ih =>
    rw [List.any_cons, List.any_cons, List.any_cons, ih]
    cases isS (hdD y) "word" <;> cases isS (hdD y) "graft" <;> simp
theorem any_perm {p : PyData → Bool} {l m : List PyData} (h : l.Perm m) : l.any p = m.any p := by
  rw [Bool.eq_iff_iff, List.any_eq_true, List.any_eq_true]
  exact ⟨fun ⟨x, hx, hp⟩ => ⟨x, h.mem_iff.mp hx, hp⟩, fun ⟨x, hx, hp⟩ => ⟨x, h.mem_iff.mpr hx, hp⟩⟩
theorem all_perm {p : PyData → Bool} {l m : List PyData} (h : l.Perm m) : l.all p = m.all p := by
  rw [Bool.eq_iff_iff, List.all_eq_true, List.all_eq_true]
  exact ⟨fun g x hx => g x (h.mem_iff.mpr hx), fun g x hx => g x (h.mem_iff.mp hx)⟩
def fTree : List PyData → PyData
  | [d, .int n] => .bool (treeD d n)
  | _ => .none
def fTrees : List PyData → PyData
  | [d, .int n] => .bool (treesD d n)
  | _ => .none
def preT (ds : List PyData) : Prop := ∃ d n, ds = [d, .int n] ∧ Sm 60 d ∧ Wi d
theorem two_is (d : PyData) : (∃ k x, d = .tuple [k, x]) ∨ isTupD d = false ∨ ∃ ds, d = .tuple ds ∧ ds.length ≠ 2 := by
  cases d with
  | tuple ds =>
    rcases ds with _ | ⟨x, _ | ⟨y, _ | ⟨z, ds⟩⟩⟩
    · exact .inr (.inr ⟨_, rfl, by simp⟩)
    · exact .inr (.inr ⟨_, rfl, by simp⟩)
    · exact .inl ⟨_, _, rfl⟩
    · exact .inr (.inr ⟨_, rfl, by simp⟩)
  | _ => exact .inr (.inl rfl)
theorem treeD_len {ds : List PyData} {n : Int} (h : ds.length ≠ 2) : treeD (.tuple ds) n = false := by
  rcases ds with _ | ⟨x, _ | ⟨y, _ | ⟨z, ds⟩⟩⟩
  · rfl
  · rfl
  · simp at h
  · rfl
theorem treeD_not {d : PyData} {n : Int} (h : isTupD d = false) : treeD d n = false := by
  cases d <;> first | rfl | cases h
theorem ed_inS {F : Fm} {σ : L2.St} {B : Hp} {te : TE} {s : Str} {L : List Str} (hl : s.length ≤ sizeLine) (h : ED F K te σ B (.list (L.map .str))) : ED F K (tOp (rIn K false) (tC (.str s)) te) σ B (.bool (inS s L)) := inSL (ed_str hl) h

abbrev s_is_tree : Stmt := topS 12
abbrev N_is_tree : List Str := ["value", "kinds", "shapes", "waiting", "knot"]
theorem sc_is_tree : FnScope N_is_tree ["value", "kinds"] (defScope s_is_tree) := ⟨rfl, rfl, rfl, by decide +kernel, rfl, by decide +kernel, by decide +kernel⟩
set_option maxHeartbeats 8000000 in
theorem ok_is_tree (F : Fun K "is_tree" "is_tree" s_is_tree f fd) (T : TC K mg) (C_is_between : Callee P w K mg base "is_between" 2 ["value", "low", "high"] (spBetween K)) (C_begins_knot : Callee P w K mg base "begins_knot" 3 ["value", "kinds"] (spF K (fun ds => ∃ d n, ds = [d, .int n] ∧ Sm 60 d) fBg)) (C_knots_in : Callee P w K mg base "knots_in" 1 ["knot"] (spF K preKn fKids)) : FnOk P w K mg base CX0 4 f fd ["value", "kinds"] (spF K preT fTree) := by
  refine F.ok sc_is_tree (fun vs H Q E h => ?_) (fun cdv A outer s H vs Q E hr h => ?_)
  · obtain ⟨B, ds, e, hd, ⟨d, n, rfl, _⟩, q⟩ := h
    exact hd.len
  · obtain ⟨B, ds, e, hd, ⟨d, n, rfl, hs, hw⟩, q⟩ := h
    obtain ⟨v, v2, rfl, hv, hn⟩ := arg2 hd
    obtain rfl := dd_int hn
    have hu64 : (A.deeper (envOfC "is_tree" (defScope s_is_tree) s.heap.objs.size f cdv)).units + 64 < cLine := hr.units
    refine ⟨_, (pss_cons (ps_if (PW.pt (pw_or (pt_not (pt_val (pe_callB (call_isiK1 K) (by rfl) T.m_isinstance bt_isinstance (pa_cons (pv 0) (pa_cons (pe_bltn (v := .ty "tuple") (by rfl) T.m_tuple bt_tuple rfl) pa_nil))))) (pw_or (pt_cmpR (op_neDK K hu64) (pe_callB (call_lenK K) (by rfl) T.m_len bt_len (pa_cons (pv 0) pa_nil)) pe_int (nomark _)) (pw_or1 (pt_not (pt_val (pe_callC C_is_between (hr.mono (by decide)) rfl pass0 (pa_cons (pe_ix (ix_seqK K) (pv 0) pe_int (fun _ _ => rfl)) (pa_cons pe_int (pa_cons (pe_op op_sub (pv 1) pe_int) pa_nil)))))))))) (pss_one (ps_ret pe_bl)) pss_nil)
      (pss_cons (ps_set (i := 2) sc_is_tree.nd rfl (Or.inl rfl) (pe_lst pa_nil))
      (pss_cons (ps_set (i := 3) sc_is_tree.nd rfl (Or.inl rfl) (pe_lst (pa_cons (pe_ix (ix_seqK K) (pv 0) pe_int (fun _ _ => rfl)) pa_nil)))
      (pss_cons (ps_while PassesOwn.never (pt_tru K (pv 3)) (pss_cons (ps_set (i := 4) sc_is_tree.nd rfl (Or.inl rfl) (pe_bm0 PySem.F.plainAttrs_list PySem.F.slot_list_pop PySem.F.type_list_pop mt_pop (pv 3)))
      (pss_cons (ps_if (PW.pt (pw_or (pt_cmpR (op_eqDK K hu64) (pe_callB (call_lenK K) (by rfl) T.m_len bt_len (pa_cons (pv 2) pa_nil)) (pe_gint rfl T.c_MOST_KNOTS) (nomark _)) (pw_or1 (pt_not (pt_val (pe_callC C_begins_knot (hr.mono (by decide)) rfl pass0 (pa_cons (pv 4) (pa_cons (pv 1) pa_nil)))))))) (pss_one (ps_ret pe_bl)) pss_nil)
      (pss_cons (ps_expr (pe_bm PySem.F.plainAttrs_list PySem.F.slot_list_append PySem.F.type_list_append mt_append (pv 2) (pa_cons (pe_ix (ix_seqK K) (pv 4) pe_int (fun _ _ => rfl)) pa_nil)))
      (pss_one (ps_expr (pe_bm PySem.F.plainAttrs_list PySem.F.slot_list_extend PySem.F.type_list_extend (Qx.mt_extendT K) (pv 3) (pa_cons (pe_callC C_knots_in (hr.mono (by decide)) rfl pass0 (pa_cons (pv 4) pa_nil)) pa_nil))))))))
      (pss_one (ps_ret (pe_and (pe_cmpR (op_eqDK K hu64) (pe_bm PySem.F.plainAttrs_list PySem.F.slot_list_count PySem.F.type_list_count (Qx.mt_scount K) (pv 2) (pa_cons pe_str pa_nil)) pe_int (nomark _)) (pe_one (pe_or (pe_cmpR (op_inK K) pe_str (pv 2) (by rfl)) (pe_one (pe_cmpR (op_inK K) pe_str (pv 2) (by rfl)))))))))))), ?_⟩
    have a : At Fm.pure B H B H := At.start (Ok.any e)
    have fin : ∀ b B1 H1, Step (fun _ => False) B H B1 H1 → b = treeD d n → Q (.bl b) H1 := fun b B1 H1 s1 eb => by
      refine q _ B1 H1 s1 ?_
      show Dd K B1 (.bl b) (.bool (treeD d n))
      rw [eb]
      exact .bl _
    have bad : ∀ (D : Ends) B1 H1, Ex B B1 → At Fm.pure B H B1 H1 → D.rt = Q → treeD d n = false → tRet (tC (.bl false)) D [some v, some (.int n), none, none, none] H1 := fun D B1 H1 e1 a1 hD hb => by
      refine sv_ret (P := DD K (.bool false)) a1 ed_bl fun v1 B2 H2 e2 a2 h2 => ?_
      obtain rfl := dd_bl h2
      rw [hD]
      exact fin _ B2 H2 a2.st hb.symm
    rcases two_is d with ⟨k, x, rfl⟩ | ht | ⟨ds, rfl, hl⟩
    · have ln : ED Fm.pure K (tCB (rLnK K) (tCons (tVar 0) tNil)) (start N_is_tree [v, .int n]) B (.int 2) := ev_cb (eds_cons (ed_var rfl hv) eds_nil) (rc_len (x := .tuple [k, x]) rfl)
      refine qv_when (b := !inB k 0 (n - 1)) a (et_is (et_or (b := false) (et_not (et_val (ed_isi (ed_var rfl hv) (kit_tup _)))) fun _ => et_or (b := false) (et_is (et_cmp (ed_op ln ed_int (rd_neD rfl rfl))) (by decide +kernel)) fun _ => et_not (et_val (ed_F (eds_cons (ed_op (ed_var rfl hv) ed_int (rd_ixT atc_0)) (eds_cons ed_int (eds_cons (ed_op (ed_var rfl (.int n)) ed_int rd_sub) eds_nil))) ⟨_, _, _, rfl⟩ rfl))) (by rfl)) (fun hb B1 H1 e1 a1 => ?_) (fun hb B1 H1 e1 a1 => ?_)
      · refine bad _ B1 H1 e1 a1 rfl ?_
        show (inB k 0 (n - 1) && _) = false
        rw [Bool.not_eq_true'] at hb
        rw [hb]
        rfl
      have hk : inB k 0 (n - 1) = true := by simpa using hb
      have td : treeD (.tuple [k, x]) n = (okN x n && (goodL (ND x) && decide (cnt "foot" (ND x) = 1))) := by
        show (inB k 0 (n - 1) && _) = _
        rw [hk, Bool.true_and]
      have hsx : Sm 60 x := (hs.memT (d := x) (by simp)).le (by decide)
      have hwx : Wi x := hw.mem (by simp)
      refine qs_new a1.j fun na S0 => ?_
      refine qs_lst (K := K) (ds := [x]) S0 (eds_cons (ed_op (ed_var rfl (hv.up e1)) ed_int (rd_ixT atc_1)) eds_nil) (by show 1 ≤ 16777216; decide) fun wa vs0 B2 H2 M0 hvs0 e2 => ?_
      refine ⟨fun m σ' H' => ∃ o B' ys vis W, σ' = [some v, some (.int n), some (.ref na), some (.ref wa), o] ∧ M2 B1 H1 B' H' na wa ((vis.map shS).map V.str) ys ∧ DdAll K B' ys W ∧ Wk x vis W ∧ (∀ y ∈ vis, Kn n y) ∧ (∀ y ∈ W, Sm 60 y ∧ Wi y) ∧ vis.length ≤ 12 ∧ m = 13 - vis.length ∧ W.length ≤ 1 + 1000 * vis.length, ⟨_, none, B2, vs0, [], [x], rfl, M0, hvs0, Wk.start x, fun y hy => (nomatch hy), fun y hy => by rw [List.mem_singleton.mp hy]; exact ⟨hsx, hwx⟩, Nat.zero_le _, rfl, by show 1 ≤ 1 + 1000 * 0; decide⟩, ?_⟩
      rintro m σ' H' ⟨o, B', ys, vis, W, rfl, M, hys, hW, hvis, hsW, h12, rfl, hWl⟩
      refine ⟨.ref wa, rfl, !W.isEmpty, .inl ⟨ys, sq_of M.hw, ?_⟩, ?_⟩
      · have := hys.len
        cases W <;> cases ys <;> first | rfl | (simp at this)
      by_cases hWe : W = []
      · subst hWe
        rw [show (!([] : List PyData).isEmpty) = false from rfl, if_neg (by decide)]
        have hp := hW.done
        have hok : okN x n = true := by
          unfold okN
          rw [← all_perm hp, List.all_eq_true]
          exact fun y hy => kn_bgK (hvis y hy)
        have hlen : (ND x).length ≤ 12 := by rw [← hp.length_eq]; exact h12
        obtain ⟨s9, g9⟩ := M.data (K := K) (ddAll_strs fun z hz => by
          obtain ⟨y, hy, rfl⟩ := List.mem_map.mp hz
          exact (shS_hd (hvis y hy)).2) (by rw [List.length_map, List.length_map]; omega)
        have a9 : At Fm.pure B1 H1 _ H' := ⟨s9, Ok.any s9.bh⟩
        refine sv_ret (P := DD K (.bool (treeD (.tuple [k, x]) n))) a9 (ed_is (ed_andV (b := decide (cnt "foot" (ND x) = 1)) (c := wgD (ND x)) (ed_is (ed_op (ed_cntS (ed_var rfl g9)) ed_int (rd_eqD rfl rfl)) ?_) fun _ => ed_is (ed_orV (ed_inS (by decide) (ed_var rfl g9)) fun _ => ed_inS (by decide) (ed_var rfl g9)) ?_) ?_) fun v1 B3 H3 e3 a3 h3 => ?_
        · rw [eqv_int, shS_cnt "foot" hvis, show cnt "foot" vis = cnt "foot" (ND x) from hp.countP_eq _]
          refine congrArg PyData.bool ?_
          rw [Bool.eq_iff_iff, beq_iff_eq, decide_eq_true_eq]
          omega
        · rw [shS_in "word" hvis, shS_in "graft" hvis, ← wgD_or]
          congr 1
          unfold wgD
          exact any_perm hp
        · rw [td, hok]
          unfold goodL
          rw [decide_eq_true hlen]
          cases wgD (ND x) <;> cases decide (cnt "foot" (ND x) = 1) <;> rfl
        · obtain rfl := dd_bl h3
          exact fin _ B3 H3 (a1.st.trans a3.st) rfl
      · obtain ⟨W', y, rfl⟩ := snoc_of hWe
        have hb : (!(W' ++ [y]).isEmpty) = true := by
          cases W' <;> rfl
        rw [hb, if_pos rfl]
        refine ⟨_, fun σ2 H3 q => q, ?_⟩
        obtain ⟨ys', vy, rfl, hys', hy⟩ := ddAll_snoc hys
        obtain ⟨hsy, hwy⟩ := hsW y (List.mem_append_right _ (List.mem_singleton.mpr rfl))
        have hyd := hsy.dep (by decide)
        refine qm_pop M rfl fun M1 => ?_
        refine ⟨.ref na, rfl, .ref na, vis.length, rfl, .inl ⟨_, sq_of M1.hn, by rw [List.length_map, List.length_map]⟩, .int (vis.length : Nat), .int 12, .int _, .int _, rfl, rfl, _, rfl, ?_⟩
        by_cases hm : vis.length = 12
        · rw [eqv_int, show (((vis.length : Nat) : Int) == 12) = true from beq_iff_eq.mpr (by omega)]
          refine fin false _ _ (a1.st.trans M1.st) ?_
          rw [td]
          have h13 := hW.len
          unfold goodL
          rw [decide_eq_false (by omega : ¬ (ND x).length ≤ 12)]
          cases okN x n <;> rfl
        · rw [eqv_int, show (((vis.length : Nat) : Int) == 12) = false from beq_eq_false_iff_ne.mpr (by omega)]
          refine ⟨vy, rfl, .int n, rfl, B', [y, .int n], M1.st.bh, .cons hy (.cons (.int n) .nil), ⟨y, n, rfl, hsy⟩, fun vb B5 H5 s5 g5 => ?_⟩
          obtain rfl := dd_bl (show Dd K B5 vb (.bool (bgK y n)) from g5)
          refine ⟨_, rfl, ?_⟩
          have M5 := M1.pass s5
          cases hbeg : bgK y n with
          | false =>
            refine fin false _ _ (a1.st.trans M5.st) ?_
            rw [td]
            have : okN x n = false := by
              cases ho : okN x n with
              | false => rfl
              | true =>
                have := kn_bgK (okN_mem ho (hW.mem hyd))
                rw [hbeg] at this
                cases this
            rw [this]
            rfl
          | true =>
            have hkn := bgK_kn hbeg
            obtain ⟨xh, hx2⟩ := shS_hd hkn
            obtain ⟨s0, ps, rfl, _, _⟩ := kn_hd hkn
            have hkl := kids_len2 hyd
            refine qm_appN (K := K) (d := .str s0) M5 rfl (ed_op (ed_var rfl (hy.up s5.bb)) ed_int (rd_ixT atc_0)) (by rw [List.length_map, List.length_map]; omega) fun vi B6 H6 M6 e6 hvi => ?_
            obtain ⟨rfl, _⟩ := dd_str hvi
            have hyl := hys'.len
            rw [List.length_append] at hWl
            simp only [List.length_cons, List.length_nil] at hWl
            have hkk : (kidsD (.tuple (.str s0 :: ps))).length ≤ 1000 := kids_wl hwy
            refine sm_extT (K := K) (ds := kidsD (.tuple (.str s0 :: ps))) M6 rfl (ed_F (eds_cons (ed_var rfl ((hy.up s5.bb).up e6)) eds_nil) ⟨_, n, rfl, hkn⟩ rfl) (by omega) fun vk B7 H7 M7 e7 hvk => ?_
            refine ⟨13 - (vis ++ [PyData.tuple (.str s0 :: ps)]).length, by rw [List.length_append, List.length_singleton]; omega, _, B7, _, vis ++ [PyData.tuple (.str s0 :: ps)], W' ++ kidsD (.tuple (.str s0 :: ps)), rfl, ?_, ((((hys'.up s5.bb).up e6).up e7).app hvk), hW.turn hyd, fun z hz => ?_, fun z hz => ?_, by rw [List.length_append, List.length_singleton]; omega, rfl, ?_⟩
            · rw [List.map_append, List.map_append]
              exact M7
            · rcases List.mem_append.mp hz with h | h
              · exact hvis z h
              · rw [List.mem_singleton.mp h]
                exact hkn
            · rcases List.mem_append.mp hz with h | h
              · exact hsW z (List.mem_append_left _ h)
              · exact ⟨(kids_sm hsy h).le (by decide), kids_wi hwy h⟩
            · rw [List.length_append, List.length_append, List.length_singleton]
              omega
    · refine qv_when (b := true) a (et_is (et_or (b := !isTupD d) (c := true) (et_not (et_val (ed_isi (ed_var rfl hv) (kit_tup _)))) fun h => by rw [ht] at h; cases h) (by rw [ht]; rfl)) (fun hb B1 H1 e1 a1 => bad _ B1 H1 e1 a1 rfl (treeD_not ht)) (fun h => nomatch h)
    · refine qv_when (b := true) a (et_is (et_or (b := false) (c := true) (et_not (et_val (ed_isi (ed_var rfl hv) (kit_tup _)))) fun _ => et_is (et_or (b := true) (c := true) (et_is (et_cmp (ed_op (ev_cb (eds_cons (ed_var rfl hv) eds_nil) (rc_len (x := .tuple ds) rfl)) ed_int (rd_neD rfl rfl))) (by rw [eqv_int]; show (!(((ds.length : Nat) : Int) == 2)) = true; rw [beq_eq_false_iff_ne.mpr (by omega)]; rfl)) fun h => nomatch h) rfl) rfl) (fun hb B1 H1 e1 a1 => bad _ B1 H1 e1 a1 rfl (treeD_len hl)) (fun h => nomatch h)

end
end K20

namespace K20
open PySem PySem.Spec PyProof.Rows L2 Evl Ex Dx
open PySem.PyData (strOk)

section
variable {P : Program} {w : World} {K : PySem.W.Frag} {mg : Str → Option Value} {base : Heap} {f : Addr} {fd : FuncData}

abbrev s_is_trees : Stmt := topS 27
abbrev N_is_trees : List Str := ["value", "kinds", "tree"]
theorem sc_is_trees : FnScope N_is_trees ["value", "kinds"] (defScope s_is_trees) := ⟨rfl, rfl, rfl, by decide +kernel, rfl, by decide +kernel, by decide +kernel⟩
theorem ok_is_trees (F : Fun K "is_trees" "is_trees" s_is_trees f fd) (T : TC K mg) (C_is_tree : Callee P w K mg base "is_tree" 4 ["value", "kinds"] (spF K preT fTree)) : FnOk P w K mg base CX0 5 f fd ["value", "kinds"] (spF K preT fTrees) := by
  refine F.ok sc_is_trees (fun vs H Q E h => ?_) (fun cdv A outer s H vs Q E hr h => ?_)
  · obtain ⟨B, ds, e, hd, ⟨d, n, rfl, _⟩, q⟩ := h
    exact hd.len
  · obtain ⟨B, ds, e, hd, ⟨d, n, rfl, hs0, hw0⟩, q⟩ := h
    obtain ⟨v, v2, rfl, hv, hn⟩ := arg2 hd
    obtain rfl := dd_int hn
    refine ⟨_, (pss_cons (ps_if (PW.pt (pw_or (pt_not (pt_val (pe_callB (call_isiK1 K) (by rfl) T.m_isinstance bt_isinstance (pa_cons (pv 0) (pa_cons (pe_bltn (v := .ty "tuple") (by rfl) T.m_tuple bt_tuple rfl) pa_nil))))) (pw_or1 (pt_not (pt_chain op_le op_le pe_int (pe_callB (call_lenK K) (by rfl) T.m_len bt_len (pa_cons (pv 0) pa_nil)) (pe_gint rfl T.c_MOST_TREES)))))) (pss_one (ps_ret pe_bl)) pss_nil)
      (pss_one (ps_ret (pe_callB (cr_allK K) (by rfl) T.m_all bt_all (pa_cons (pe_lc (own := [("tree", 2)]) rfl sc_is_trees.nd (pi_seqK K (pv 0)) (blkOk_by (own := [("tree", 2)]) (N := N_is_trees) (sc := defScope s_is_trees) (by decide +kernel)) (fun _ _ _ _ _ => pg_name (i := 2) sc_is_trees.nd rfl (Or.inl rfl)) (fun _ _ _ _ _ => pts_nil) (fun _ _ _ _ _ => (pe_callC C_is_tree (hr.mono (by decide)) rfl pass0 (pa_cons (pv 2) (pa_cons (pv 1) pa_nil))))) pa_nil))))), ?_⟩
    have a : At Fm.pure B H B H := At.start (Ok.any e)
    have fin : ∀ b B1 H1, At Fm.pure B H B1 H1 → b = treesD d n → Q (.bl b) H1 := fun b B1 H1 a1 eb => by
      refine q _ B1 H1 a1.st ?_
      show Dd K B1 (.bl b) (.bool (treesD d n))
      rw [eb]
      exact .bl _
    by_cases hs : isTupD d = true
    · obtain ⟨x, rfl⟩ := isTup_is hs
      refine qv_when (b := !(decide ((1 : Int) ≤ (x.length : Nat)) && decide (((x.length : Nat) : Int) ≤ 9))) a (et_is (et_or (b := false) (et_not (et_val (ed_isi (ed_var rfl hv) (kit_tup _)))) fun _ => et_not (et_cmp (ed_chain (ed_int) (ev_cb (eds_cons (ed_var rfl hv) eds_nil) (rc_len rfl)) rd_le fun _ => ⟨_, ed_int, rd_le⟩))) (by rfl)) (fun hb B1 H1 e1 a1 => ?_) (fun hb B1 H1 e1 a1 => ?_)
      · refine sv_ret (P := DD K (.bool false)) a1 ed_bl fun v1 B2 H2 e2 a2 h2 => ?_
        obtain rfl := dd_bl h2
        refine fin _ B2 H2 a2 ?_
        rw [treesD_tup]
        rw [Bool.not_eq_true'] at hb
        rw [hb]
        rfl
      · rw [Bool.not_eq_false'] at hb
        have hz : x.length ≤ 9 := by
          rw [Bool.and_eq_true, decide_eq_true_eq, decide_eq_true_eq] at hb
          omega
        refine sv_ret (P := DD K (.bool (treesD (.tuple x) n))) a1 (ed_is (ev_cb (eds_cons (ed_is (ed_lcD (fun _ => true) (fun d => .bool (treeD d n)) (ev_seqT (ed_var rfl (hv.up e1))) (by omega) (fun _ => rfl) (fun d v B2 _ _ _ => et_yes) (fun d v B2 hm _ e2 hdv => ed_F (eds_cons (ed_var rfl hdv) (eds_cons (ed_var rfl (.int n)) eds_nil)) ⟨_, _, rfl, (hs0.memT hm).le (by decide), hw0.mem hm⟩ rfl)) (by rw [mapb])) eds_nil) rc_all) ?_) fun v1 B2 H2 e2 a2 h2 => ?_
        · rw [treesD_tup]
          rw [hb, all_id]
          rfl
        · obtain rfl := dd_bl h2
          exact fin _ B2 H2 a2 rfl
    · have hs' : isTupD d = false := by simpa using hs
      refine qv_when (b := true) a (et_is (et_or (b := !isTupD d) (c := true) (et_not (et_val (ed_isi (ed_var rfl hv) (kit_tup _)))) fun h => by rw [hs'] at h; cases h) (by rw [hs']; rfl)) (fun hb B1 H1 e1 a1 => ?_) (fun h => nomatch h)
      refine sv_ret (P := DD K (.bool false)) a1 ed_bl fun v1 B2 H2 e2 a2 h2 => ?_
      obtain rfl := dd_bl h2
      refine fin _ B2 H2 a2 ?_
      cases d <;> first | rfl | cases hs'

abbrev s_plain_knot : Stmt := topS 17
abbrev N_plain_knot : List Str := ["knot", "inner"]
theorem sc_plain_knot : FnScope N_plain_knot ["knot"] (defScope s_plain_knot) := ⟨rfl, rfl, rfl, by decide +kernel, rfl, by decide +kernel, by decide +kernel⟩
/-! ### plain_knot -/
def preP (m : Nat) (ds : List PyData) : Prop := ∃ d n, ds = [d] ∧ okN d n = true ∧ d.depth ≤ m ∧ Sm 60 d ∧ Wi d
def fId : List PyData → PyData
  | [d] => d
  | _ => .none
theorem kn_dep {n : Int} {d : PyData} (h : Kn n d) : 1 ≤ d.depth := by
  obtain ⟨s, ps, rfl, _, _⟩ := kn_hd h
  simp [PyData.depth]
theorem ok_plain_knot0 (F : Fun K "plain_knot" "plain_knot" s_plain_knot f fd) : FnOk P w K mg base CX0 1 f fd ["knot"] (spF K (preP 0) fId) := by
  refine F.ok sc_plain_knot (fun vs H Q E h => ?_) (fun cdv A outer s H vs Q E hr h => ?_)
  · obtain ⟨B, ds, e, hd, ⟨d, n, rfl, _⟩, q⟩ := h
    exact hd.len
  · obtain ⟨B, ds, e, hd, ⟨d, n, rfl, hok, h0, _⟩, q⟩ := h
    have := kn_dep (okN_kn hok)
    omega
theorem map_true {ks : List PyData} : (ks.filter fun _ => true).map (fun d => d) = ks := by
  rw [List.filter_eq_self.mpr (fun _ _ => rfl), List.map_id']
theorem ok_plain_knotS (m : Nat) (F : Fun K "plain_knot" "plain_knot" s_plain_knot f fd) (T : TC K mg) (C_plain_knot : Callee P w K mg base "plain_knot" (m + 1) ["knot"] (spF K (preP m) fId)) : FnOk P w K mg base CX0 (m + 2) f fd ["knot"] (spF K (preP (m + 1)) fId) := by
  refine F.ok sc_plain_knot (fun vs H Q E h => ?_) (fun cdv A outer s H vs Q E hr h => ?_)
  · obtain ⟨B, ds, e, hd, ⟨d, n, rfl, _⟩, q⟩ := h
    exact hd.len
  · obtain ⟨B, ds, e, hd, ⟨d, n, rfl, hok, hdp, hs, hw⟩, q⟩ := h
    obtain ⟨v, rfl, hv⟩ := arg1 hd
    have hu64 : (A.deeper (envOfC "plain_knot" (defScope s_plain_knot) s.heap.objs.size f cdv)).units + 64 < cLine := hr.units
    refine ⟨_, (pss_cons (ps_if (pt_cmpR (op_eqDK K hu64) (pe_ix (ix_seqK K) (pv 0) pe_int (fun _ _ => rfl)) pe_str (nomark _)) (pss_one (ps_ret (pe_tup (pa_cons pe_str (pa_cons (pe_callTy (call_tuple_ofK K) (by rfl) T.m_tuple bt_tuple (pa_cons (pe_lc (own := [("inner", 1)]) rfl sc_plain_knot.nd (pi_seqK K (pe_ix (ix_seqK K) (pv 0) pe_int (fun _ _ => rfl))) (blkOk_by (own := [("inner", 1)]) (N := N_plain_knot) (sc := defScope s_plain_knot) (by decide +kernel)) (fun _ _ _ _ _ => pg_name (i := 1) sc_plain_knot.nd rfl (Or.inl rfl)) (fun _ _ _ _ _ => pts_nil) (fun _ _ _ _ _ => (pe_callC C_plain_knot (hr.mono (by omega)) rfl pass0 (pa_cons (pv 1) pa_nil)))) pa_nil)) pa_nil))))) pss_nil)
      (pss_cons (ps_if (pt_cmpR (op_eqDK K hu64) (pe_ix (ix_seqK K) (pv 0) pe_int (fun _ _ => rfl)) pe_str (nomark _)) (pss_one (ps_ret (pe_tup (pa_cons pe_str (pa_cons (pe_ix (ix_seqK K) (pv 0) pe_int (fun _ _ => rfl)) (pa_cons (pe_callTy (call_tuple_ofK K) (by rfl) T.m_tuple bt_tuple (pa_cons (pe_lc (own := [("inner", 1)]) rfl sc_plain_knot.nd (pi_seqK K (pe_ix (ix_seqK K) (pv 0) pe_int (fun _ _ => rfl))) (blkOk_by (own := [("inner", 1)]) (N := N_plain_knot) (sc := defScope s_plain_knot) (by decide +kernel)) (fun _ _ _ _ _ => pg_name (i := 1) sc_plain_knot.nd rfl (Or.inl rfl)) (fun _ _ _ _ _ => pts_nil) (fun _ _ _ _ _ => (pe_callC C_plain_knot (hr.mono (by omega)) rfl pass0 (pa_cons (pv 1) pa_nil)))) pa_nil)) pa_nil)))))) pss_nil)
      (pss_one (ps_ret (pe_callTy (call_tuple_ofK K) (by rfl) T.m_tuple bt_tuple (pa_cons (pv 0) pa_nil)))))), ?_⟩
    have a : At Fm.pure B H B H := At.start (Ok.any e)
    have hdd := hs.dep (by decide)
    have tS : ∀ B1 (s s0 : Str) (ps : List PyData) (b : Bool), d = .tuple (.str s0 :: ps) → (s0 == s) = b → Ex B B1 → s.length ≤ sizeLine → SeqAt.shaped (.str s) = true → SeqAt.shaped (.str s0) = true → ETt Fm.pure (tTest (tOp (rEqD K) (tOp (rIx K) (tVar 0) (tC (.int 0))) (tC (.str s)))) [some v, none] B1 b := fun B1 s s0 ps b hd0 hb e1 hl hsh hsh0 => by
      subst hd0
      exact et_is (et_cmp (ed_op (ed_op (ed_var rfl (hv.up e1)) ed_int (rd_ixT atc_0)) (ed_str hl) (rd_eqD hsh0 hsh))) ((eqv_str _ _).trans hb)
    have lc : ∀ (ks : List PyData) (B1 : Hp) (te : TE), kidsD d = ks → Ex B B1 → ED Fm.pure K te (wipe [some v, none] [1]) B1 (.tuple ks) → ED Fm.pure K (tLc (iSeq K te) (gName 1) tYes (tCall (spF K (preP m) fId) [] E0 (tCons (tVar 1) tNil)) [1]) [some v, none] B1 (.list ks) := fun ks B1 te hk e1 ht => by
      refine ed_is (ed_lcD (fun _ => true) (fun d => d) (ev_seqT ht) (by have := kids_wl hw; rw [hk] at this; omega) (fun _ => rfl) (fun y u B2 hm _ hu => et_yes) (fun y u B2 hm _ _ hu => ed_F (eds_cons (ed_var rfl hu) eds_nil) ⟨y, n, rfl, okN_kid hdd hok (hk ▸ hm), ?_, (kids_sm hs (hk ▸ hm)).le (by decide), kids_wi hw (hk ▸ hm)⟩ rfl)) (by rw [map_true])
      have := kids_dep (hk ▸ hm : y ∈ kidsD d)
      omega
    have hkn := okN_kn hok
    cases hkn with
    | foot =>
      refine qv_when (b := false) a (tS B "plain" "foot" [] false rfl (by decide +kernel) (Ex.refl B) (by decide) (by decide +kernel) (by decide +kernel)) (fun h => nomatch h) (fun _ B1 H1 e1 a1 => ?_)
      refine qv_when (b := false) a1 (tS B1 "graft" "foot" [] false rfl (by decide +kernel) e1 (by decide) (by decide +kernel) (by decide +kernel)) (fun h => nomatch h) (fun _ B2 H2 e2 a2 => ?_)
      exact sv_ret (P := DD K (.tuple [.str "foot"])) a2 (ev_cb (eds_cons (ed_var rfl (hv.up (e1.trans e2))) eds_nil) rc_tupT) fun v1 B3 H3 e3 a3 h3 => q v1 B3 H3 a3.st h3
    | word w0 _ =>
      refine qv_when (b := false) a (tS B "plain" "word" [w0] false rfl (by decide +kernel) (Ex.refl B) (by decide) (by decide +kernel) (by decide +kernel)) (fun h => nomatch h) (fun _ B1 H1 e1 a1 => ?_)
      refine qv_when (b := false) a1 (tS B1 "graft" "word" [w0] false rfl (by decide +kernel) e1 (by decide) (by decide +kernel) (by decide +kernel)) (fun h => nomatch h) (fun _ B2 H2 e2 a2 => ?_)
      exact sv_ret (P := DD K (.tuple [.str "word", w0])) a2 (ev_cb (eds_cons (ed_var rfl (hv.up (e1.trans e2))) eds_nil) rc_tupT) fun v1 B3 H3 e3 a3 h3 => q v1 B3 H3 a3.st h3
    | plain ks =>
      refine qv_when (b := true) a (tS B "plain" "plain" [.tuple ks] true rfl (by decide +kernel) (Ex.refl B) (by decide) (by decide +kernel) (by decide +kernel)) (fun _ B1 H1 e1 a1 => ?_) (fun h => nomatch h)
      exact sv_ret (P := DD K (.tuple [.str "plain", .tuple ks])) a1 (ed_tup (eds_cons ed_str (eds_cons (ev_cb (eds_cons (lc ks B1 _ (kids_plain ks) e1 (ed_op (ed_var rfl (hv.up e1)) ed_int (rd_ixT atc_1))) eds_nil) rc_tupL) eds_nil))) fun v1 B3 H3 e3 a3 h3 => q v1 B3 H3 a3.st h3
    | graft k ks _ _ =>
      refine qv_when (b := false) a (tS B "plain" "graft" [.int k, .tuple ks] false rfl (by decide +kernel) (Ex.refl B) (by decide) (by decide +kernel) (by decide +kernel)) (fun h => nomatch h) (fun _ B1 H1 e1 a1 => ?_)
      refine qv_when (b := true) a1 (tS B1 "graft" "graft" [.int k, .tuple ks] true rfl (by decide +kernel) e1 (by decide) (by decide +kernel) (by decide +kernel)) (fun _ B2 H2 e2 a2 => ?_) (fun h => nomatch h)
      exact sv_ret (P := DD K (.tuple [.str "graft", .int k, .tuple ks])) a2 (ed_tup (eds_cons ed_str (eds_cons (ed_op (ed_var rfl (hv.up (e1.trans e2))) ed_int (rd_ixT atc_1)) (eds_cons (ev_cb (eds_cons (lc ks B2 _ (kids_graft _ ks) (e1.trans e2) (ed_op (ed_var rfl (hv.up (e1.trans e2))) ed_int (rd_ixT atc_2))) eds_nil) rc_tupL) eds_nil)))) fun v1 B3 H3 e3 a3 h3 => q v1 B3 H3 a3.st h3
theorem call_plain_knot {f : Addr} (d : DFact K "plain_knot" s_plain_knot f) (T : TC K mg) {h : Heap} (X : K.In h) (G : h.Ns mainGlobals mg) : ∀ m : Nat, Callee P w K mg base "plain_knot" (m + 1) ["knot"] (spF K (preP m) fId)
  | 0 => d.callee X G (fun fd F => ok_plain_knot0 F) (fun fd F => F.binds fun _ _ _ _ _ _ us hl => match us, hl with | [_], _ => rfl)
  | m + 1 => d.callee X G (fun fd F => ok_plain_knotS m F T (call_plain_knot d T X G m)) (fun fd F => F.binds fun _ _ _ _ _ _ us hl => match us, hl with | [_], _ => rfl)

abbrev s_plain_tree : Stmt := topS 16
abbrev N_plain_tree : List Str := ["tree"]
theorem sc_plain_tree : FnScope N_plain_tree ["tree"] (defScope s_plain_tree) := ⟨rfl, rfl, rfl, by decide +kernel, rfl, by decide +kernel, by decide +kernel⟩
def prePT (ds : List PyData) : Prop := ∃ d n, ds = [d] ∧ treeD d n = true ∧ Sm 20 d ∧ Wi d
theorem ok_plain_tree (F : Fun K "plain_tree" "plain_tree" s_plain_tree f fd) (T : TC K mg) (C_plain_knot : Callee P w K mg base "plain_knot" 20 ["knot"] (spF K (preP 19) fId)) : FnOk P w K mg base CX0 21 f fd ["tree"] (spF K prePT fId) := by
  refine F.ok sc_plain_tree (fun vs H Q E h => ?_) (fun cdv A outer s H vs Q E hr h => ?_)
  · obtain ⟨B, ds, e, hd, ⟨d, n, rfl, _⟩, q⟩ := h
    exact hd.len
  · obtain ⟨B, ds, e, hd, ⟨d, n, rfl, htr, hs, hw⟩, q⟩ := h
    obtain ⟨v, rfl, hv⟩ := arg1 hd
    refine ⟨_, (pss_one (ps_ret (pe_tup (pa_cons (pe_ix (ix_seqK K) (pv 0) pe_int (fun _ _ => rfl)) (pa_cons (pe_callC C_plain_knot (hr.mono (by decide)) rfl pass0 (pa_cons (pe_ix (ix_seqK K) (pv 0) pe_int (fun _ _ => rfl)) pa_nil)) pa_nil))))), ?_⟩
    have a : At Fm.pure B H B H := At.start (Ok.any e)
    obtain ⟨k, x, rfl, TI⟩ := treeD_is htr
    have hsx : Sm 19 x := hs.memT (by simp)
    exact sv_ret (P := DD K (.tuple [.int k, x])) a (ed_tup (eds_cons (ed_op (ed_var rfl hv) ed_int (rd_ixT atc_0)) (eds_cons (ed_F (eds_cons (ed_op (ed_var rfl hv) ed_int (rd_ixT atc_1)) eds_nil) ⟨x, n, rfl, TI.ok, hsx.2, hsx.le (by decide), hw.mem (by simp)⟩ rfl) eds_nil))) fun v1 B3 H3 e3 a3 h3 => q v1 B3 H3 a3.st h3

end
end K20

namespace K20
open PySem PySem.Spec PyProof.Rows L2 Evl Ex Dx
open PySem.PyData (strOk)

section
variable {P : Program} {w : World} {K : PySem.W.Frag} {mg : Str → Option Value} {base : Heap} {f : Addr} {fd : FuncData}

def itemsD : PyData → List PyData
  | .list xs => xs
  | .tuple xs => xs
  | _ => []
def fUn : List PyData → PyData
  | [d] => .list ((edges (itemsD d)).map toD)
  | _ => .none
def preUn (ds : List PyData) : Prop := ∃ d rs n, ds = [d] ∧ (d = .list rs ∨ d = .tuple rs) ∧ rs.length ≤ 100 ∧ ∀ r ∈ rs, ruleD r n = true
def ofD (d : PyData) : Int × Int := match d with
  | .tuple [.int a, .int b] => (a, b)
  | _ => (0, 0)
theorem ofD_toD (E : List (Int × Int)) : (E.map toD).map ofD = E := by
  rw [List.map_map]
  exact List.map_id'' (fun _ => rfl) E
def fBack : List PyData → PyData
  | [.list es, .int n] => optD (backK (es.map ofD) n.toNat)
  | _ => .none
def preBack (ds : List PyData) : Prop := ∃ (E : List (Int × Int)) (n : Nat), ds = [.list (E.map toD), .int (n : Nat)] ∧ E.length ≤ 100 ∧ n ≤ 40
theorem inD_int (x : Int) (S : List Int) : inD (.int x) (S.map .int) = S.contains x := by
  unfold inD
  rw [List.any_map, Bool.eq_iff_iff, List.any_eq_true, List.contains_iff_mem]
  constructor
  · rintro ⟨y, hy, he⟩
    have e : (y == x) = true := (eqv_int y x).symm.trans he
    rw [beq_iff_eq] at e
    exact e ▸ hy
  · intro h
    exact ⟨x, h, (eqv_int x x).trans (beq_self_eq_true x)⟩
theorem flatI (S : List Int) : (S.map PyData.int).all flatD = true := by
  rw [List.all_map]
  exact List.all_eq_true.mpr fun _ _ => rfl
theorem lc_E (E : List (Int × Int)) (p : Int × Int → Bool) : ((E.map toD).filter fun d => p (ofD d)).map (fun d => PyData.int (ofD d).2) = ((E.filter p).map (·.2)).map PyData.int := by
  rw [List.filter_map, List.map_map, List.map_map]
  rfl
theorem backK_some {E : List (Int × Int)} {n i : Nat} (hi : i < n) (h : (Gm.turns E (i : Int) (n + 1)).contains (i : Int) = true) (hb : ∀ k, k < i → (Gm.turns E (k : Int) (n + 1)).contains (k : Int) = false) : backK E n = some (i : Int) := by
  unfold backK
  rw [List.find?_range_eq_some.mpr ⟨h, List.mem_range.mpr hi, fun j hj => by rw [hb j hj]; rfl⟩]
  rfl
theorem backK_none {E : List (Int × Int)} {n : Nat} (hb : ∀ k, k < n → (Gm.turns E (k : Int) (n + 1)).contains (k : Int) = false) : backK E n = none := by
  unfold backK
  rw [List.find?_eq_none.mpr fun k hk => by rw [hb k (List.mem_range.mp hk)]; decide]
  rfl
def tq (i : Int) (S : List Int) (q : Int × Int) : Bool := (q.1 == i || S.contains q.1) && !S.contains q.2
theorem at2_0 {x y : PyData} : atI [x, y] 0 = some x := atI_nat (j := 0) rfl
theorem at2_1 {x y : PyData} : atI [x, y] 1 = some y := atI_nat (j := 1) rfl

abbrev s_law_back_kind : Stmt := topS 38
abbrev N_law_back_kind : List Str := ["steps", "kinds", "kind", "found", "turn", "pair"]
theorem sc_law_back_kind : FnScope N_law_back_kind ["steps", "kinds"] (defScope s_law_back_kind) := ⟨rfl, rfl, rfl, by decide +kernel, rfl, by decide +kernel, by decide +kernel⟩
theorem ok_law_back_kind (F : Fun K "_law_back_kind" "_law_back_kind" s_law_back_kind f fd) (T : TC K mg) : FnOk P w K mg base CX0 1 f fd ["steps", "kinds"] (spF K preBack fBack) := by
  refine F.ok sc_law_back_kind (fun vs H Q E h => ?_) (fun cdv A outer s H vs Q E hr h => ?_)
  · obtain ⟨B, ds, e, hd, ⟨E, n, rfl, hl, hn⟩, q⟩ := h
    exact hd.len
  · obtain ⟨B, ds, e, hd, ⟨E, n, rfl, hl, hn⟩, q⟩ := h
    obtain ⟨v, v2, rfl, hv, hn2⟩ := arg2 hd
    obtain rfl := dd_int hn2
    have hu64 : (A.deeper (envOfC "_law_back_kind" (defScope s_law_back_kind) s.heap.objs.size f cdv)).units + 64 < cLine := hr.units
    refine ⟨_, (pss_cons (ps_for PassesOwn.never rfl (pi_range1 rfl T.m_range (pa_cons (pv 1) pa_nil)) (pg_name (i := 2) sc_law_back_kind.nd rfl (Or.inr rfl)) (pss_cons (ps_set (i := 3) sc_law_back_kind.nd rfl (Or.inr rfl) (pe_lst pa_nil))
      (pss_cons (ps_for PassesOwn.never rfl (pi_range1 rfl T.m_range (pa_cons (pe_op (op_addK K) (pv 1) pe_int) pa_nil)) (pg_name (i := 4) sc_law_back_kind.nd rfl (Or.inl rfl)) (pss_one (ps_set (i := 3) sc_law_back_kind.nd rfl (Or.inr rfl) (pe_op (op_addK K) (pv 3) (pe_lc (own := [("pair", 5)]) rfl sc_law_back_kind.nd (pi_seqK K (pv 0)) (blkOk_by (own := [("pair", 5)]) (N := N_law_back_kind) (sc := defScope s_law_back_kind) (by decide +kernel)) (fun _ _ _ _ _ => pg_name (i := 5) sc_law_back_kind.nd rfl (Or.inl rfl)) (fun _ _ _ _ _ => (pts_one (PW.pt (pw_and (PW.pt (pw_or (pt_cmpR (op_eqDK K hu64) (pe_ix (ix_seqK K) (pv 5) pe_int (fun _ _ => rfl)) (pv 2) (nomark _)) (pw_or1 (pt_cmpR (op_inK K) (pe_ix (ix_seqK K) (pv 5) pe_int (fun _ _ => rfl)) (pv 3) (by rfl))))) (pw_and1 (pt_cmpR (op_ninK K) (pe_ix (ix_seqK K) (pv 5) pe_int (fun _ _ => rfl)) (pv 3) (by rfl))))))) (fun _ _ _ _ _ => (pe_ix (ix_seqK K) (pv 5) pe_int (fun _ _ => rfl))))))))
      (pss_one (ps_if (pt_cmpR (op_inK K) (pv 2) (pv 3) (by rfl)) (pss_one (ps_ret (pv 2))) pss_nil)))))
      (pss_one (ps_ret pe_non))), ?_⟩
    have a : At Fm.pure B H B H := At.start (Ok.any e)

    have fb : fBack [.list (E.map toD), .int (n : Nat)] = optD (backK E n) := by
      show optD (backK ((E.map toD).map ofD) ((n : Int)).toNat) = _
      rw [ofD_toD]
      rfl
    refine qd_forR (K := K) (n := (n : Nat)) a (eds_cons (ed_var rfl (.int _)) eds_nil) ⟨by omega, by omega⟩ (fun i σ' B' => (∃ o1 o2 o3, σ' = [some v, some (.int (n : Nat)), o1, o2, o3, none]) ∧ ∀ k : Nat, k < i → (Gm.turns E (k : Int) (n + 1)).contains (k : Int) = false) (fun B1 _ => ⟨⟨none, none, none, rfl⟩, fun k hk => absurd hk (Nat.not_lt_zero k)⟩) ?_ ?_
    · rintro Bb i σ' B1 H1 eb hi e1 a1 ⟨⟨o1, o2, o3, rfl⟩, hno⟩
      have hi' : i < n := by omega
      refine qv_asg a1 (ed_lst (K := K) eds_nil) fun vf B2 H2 e2 a2 hf => ?_
      refine qd_forR (K := K) (n := (n : Nat) + 1) a2 (eds_cons (ed_op (ed_var rfl (.int _)) ed_int rd_add) eds_nil) ⟨by omega, by omega⟩ (fun t σ' B' => ∃ o3 vf, σ' = [some v, some (.int (n : Nat)), some (.int (i : Nat)), some vf, o3, none] ∧ Dd K B' vf (.list ((Gm.turns E (i : Nat) t).map .int))) (fun B3 e3 => ⟨o3, vf, rfl, hf.up e3⟩) ?_ ?_
      · rintro Bc t σ' B3 H3 ec ht e3 a3 ⟨o4, vg, rfl, hg⟩
        have ht' : t ≤ 41 := by omega
        have hS : (Gm.turns E (i : Nat) t).length ≤ 4100 := Nat.le_trans (Gm.turns_len E (i : Nat) t) (Nat.le_trans (Nat.mul_le_mul ht' hl) (by decide))
        have eB : Ex B B3 := ((eb.trans e1).trans e2).trans (ec.trans e3)
        refine sv_asg a3 (ed_op (ed_var rfl hg) (ed_lcD (fun d => tq (i : Int) (Gm.turns E (i : Nat) t) (ofD d)) (fun d => .int (ofD d).2) (ev_seqL (ed_var rfl (hv.up eB))) (by rw [List.length_map]; omega) (fun _ => rfl) (fun d u B4 hm e4 hd4 => ?_) (fun d u B4 hm _ e4 hd4 => ?_)) (rd_addL ?_)) fun v4 B4 H4 e4 a4 h4 => ?_
        · obtain ⟨⟨x, y⟩, _, rfl⟩ := List.mem_map.mp hm
          have c1 : ∀ B5, Ex B4 B5 → True := fun _ _ => trivial
          refine et_and (et_or (et_is (et_cmp (ed_op (K := K) (ed_op (ed_var rfl hd4) ed_int (rd_ixT at2_0)) (ed_var rfl (.int (i : Nat))) (rd_eqD rfl rfl))) (eqv_int _ _)) fun _ => et_is (et_cmp (ed_op (K := K) (ed_op (ed_var rfl hd4) ed_int (rd_ixT at2_0)) (ed_var rfl (hg.up e4)) (rd_isin (.inl rfl) rfl (flatI _)))) (inD_int _ _)) fun _ => et_is (et_cmp (ed_op (K := K) (ed_op (ed_var rfl hd4) ed_int (rd_ixT at2_1)) (ed_var rfl (hg.up e4)) (rd_notin (.inl rfl) rfl (flatI _)))) (congrArg Bool.not (inD_int _ _))
        · obtain ⟨⟨x, y⟩, _, rfl⟩ := List.mem_map.mp hm
          exact ed_op (ed_var rfl hd4) ed_int (rd_ixT at2_1)
        · rw [lc_E E (tq (i : Int) (Gm.turns E (i : Nat) t)), List.length_map, List.length_map, List.length_map]
          have := List.length_filter_le (tq (i : Int) (Gm.turns E (i : Nat) t)) E
          omega
        · rw [lc_E E (tq (i : Int) (Gm.turns E (i : Nat) t)), ← List.map_append] at h4
          exact ⟨B4, e3.trans e4, a4, _, v4, rfl, h4⟩
      · rintro σ' B3 H3 e3 a3 ⟨o4, vg, rfl, hg⟩
        have hg' : Dd K B3 vg (.list ((Gm.turns E (i : Nat) (n + 1)).map .int)) := hg
        refine sv_if (b := (Gm.turns E (i : Nat) (n + 1)).contains (i : Nat)) a3 (et_is (et_cmp (ed_op (ed_var rfl (.int (i : Nat))) (ed_var rfl hg') (rd_isin (.inl rfl) rfl (flatI _)))) (inD_int _ _)) (fun hb B4 H4 e4 a4 => ?_) (fun hb B4 H4 e4 a4 => ?_)
        · refine sv_ret (P := DD K (.int (i : Nat))) a4 (ed_var rfl (.int _)) fun v5 B5 H5 e5 a5 h5 => q _ B5 H5 a5.st ?_
          rw [fb, backK_some hi' hb hno]
          exact h5
        · refine ⟨B4, ((e1.trans e2).trans e3).trans e4, a4, ⟨_, _, _, rfl⟩, fun k hk => ?_⟩
          rcases Nat.lt_succ_iff_lt_or_eq.mp hk with h | rfl
          · exact hno k h
          · exact hb
    · rintro σ' B1 H1 e1 a1 ⟨⟨o1, o2, o3, rfl⟩, hno⟩
      refine sv_ret (P := DD K .none) a1 ed_non fun v5 B5 H5 e5 a5 h5 => q _ B5 H5 a5.st ?_
      rw [fb, backK_none fun k hk => hno k (by show k < ((n : Nat) : Int).toNat; omega)]
      exact h5
def fDue : List PyData → PyData
  | [k, r] => dueD k r
  | _ => .none
theorem due_num {k r : PyData} (h : (!isI k || (decide ((match k with | .int i => i | _ => 0) < 1) || decide (40 < (match k with | .int i => i | _ => 0)))) = true) : dueD k r = .tuple [.str "number", k] := by
  cases k with
  | int n =>
    have h' : n < 1 ∨ 40 < n := by simpa [isI] using h
    unfold dueD
    simp only
    rw [if_neg (by omega)]
  | _ => rfl
theorem due_rules {n : Int} {r : PyData} (h0 : 1 ≤ n ∧ n ≤ 40) (h : rulesD r n = false) : dueD (.int n) r = .tuple [.str "rules", r] := by
  unfold dueD
  simp only
  rw [if_pos h0, h, if_neg (by decide)]
theorem due_back {n : Int} {rs : List PyData} (h0 : 1 ≤ n ∧ n ≤ 40) (h : rulesD (.tuple rs) n = true) : dueD (.int n) (.tuple rs) = (match backK (edges rs) n.toNat with | none => .tuple [.str "kept", .int n, .tuple rs] | some b => .tuple [.str "endless", .int b]) := by
  unfold dueD
  simp only
  rw [if_pos h0, if_pos h]
  first
    | done
    | cases backK (edges rs) n.toNat <;> rfl
theorem rules_all {rs : List PyData} {n : Int} (h : rulesD (.tuple rs) n = true) : 1 ≤ rs.length ∧ rs.length ≤ 90 ∧ ∀ r ∈ rs, ruleD r n = true := by
  rw [rulesD_tup, Bool.and_eq_true, Bool.and_eq_true, decide_eq_true_eq, decide_eq_true_eq, List.all_eq_true] at h
  exact ⟨by omega, by omega, h.2⟩
end
end K20

namespace K20
open PySem PySem.Spec PyProof.Rows L2 Evl Ex Dx
open PySem.PyData (strOk)

section
variable {P : Program} {w : World} {K : PySem.W.Frag} {mg : Str → Option Value} {base : Heap} {f : Addr} {fd : FuncData}
theorem ed_ng {F : Fm} {σ : L2.St} {B : Hp} {i : Int} {ta : TE} (h : ED F K ta σ B (.int i)) : ED F K (tUn (rU fun i => .int (-i)) ta) σ B (.int (-i)) := fun B1 e0 H j Q q => h B1 e0 H j _ fun v B2 H2 s2 j2 g => ⟨i, dd_int g, q _ B2 H2 s2 j2 (.int _)⟩
theorem eqvT_nl : ∀ ds : List PyData, PyData.eqv (.tuple ds) (.tuple []) = ds.isEmpty
  | [] => by simp [PyData.eqv, PyData.eqvAll]
  | d :: ds => by simp [PyData.eqv, PyData.eqvAll]
theorem in2 (s : Str) : inS s ["plain", "graft"] = ((s == ("plain" : Str)) || (s == ("graft" : Str))) := by
  unfold inS
  rw [List.any_cons, List.any_cons, List.any_nil, Bool.or_false, Bool.eq_iff_iff]
  simp only [Bool.or_eq_true, beq_iff_eq]
  constructor
  · rintro (h | h)
    · exact .inl h.symm
    · exact .inr h.symm
  · rintro (h | h)
    · exact .inl h.symm
    · exact .inr h.symm
theorem pg2 {F : Fm} {σ : L2.St} {B : Hp} : ED F K (tLst (tCons (tC (.str "plain")) (tCons (tC (.str "graft")) tNil))) σ B (.list ((["plain", "graft"] : List Str).map .str)) := pyStr2
theorem last2 {x y : PyData} : atI [x, y] (-1) = some y := atI_last [x] y
theorem last3 {x y z : PyData} : atI [x, y, z] (-1) = some z := atI_last [x, y] z
/-! ### _law_knots -/
def preLK (m : Nat) (ds : List PyData) : Prop := ∃ d n, ds = [d] ∧ okN d n = true ∧ d.depth ≤ m ∧ Sm 60 d ∧ Wi d ∧ (ND d).length ≤ 1000

abbrev s_law_knots : Stmt := topS 42
abbrev N_law_knots : List Str := ["knot", "found", "part"]
theorem sc_law_knots : FnScope N_law_knots ["knot"] (defScope s_law_knots) := ⟨rfl, rfl, rfl, by decide +kernel, rfl, by decide +kernel, by decide +kernel⟩
theorem ok_law_knots0 (F : Fun K "_law_knots" "_law_knots" s_law_knots f fd) : FnOk P w K mg base CX0 1 f fd ["knot"] (spF K (preLK 0) fAll) := by
  refine F.ok sc_law_knots (fun vs H Q E h => ?_) (fun cdv A outer s H vs Q E hr h => ?_)
  · obtain ⟨B, ds, e, hd, ⟨d, n, rfl, _⟩, q⟩ := h
    exact hd.len
  · obtain ⟨B, ds, e, hd, ⟨d, n, rfl, hok, h0, _⟩, q⟩ := h
    have := kn_dep (okN_kn hok)
    omega
theorem ok_law_knotsS (m : Nat) (F : Fun K "_law_knots" "_law_knots" s_law_knots f fd) (T : TC K mg) (C_law_knots : Callee P w K mg base "_law_knots" (m + 1) ["knot"] (spF K (preLK m) fAll)) : FnOk P w K mg base CX0 (m + 2) f fd ["knot"] (spF K (preLK (m + 1)) fAll) := by
  refine F.ok sc_law_knots (fun vs H Q E h => ?_) (fun cdv A outer s H vs Q E hr h => ?_)
  · obtain ⟨B, ds, e, hd, ⟨d, n, rfl, _⟩, q⟩ := h
    exact hd.len
  · obtain ⟨B, ds, e, hd, ⟨d, n, rfl, hok, hdp, hs, hw, hl⟩, q⟩ := h
    obtain ⟨v, rfl, hv⟩ := arg1 hd
    refine ⟨_, (pss_cons (ps_set (i := 1) sc_law_knots.nd rfl (Or.inl rfl) (pe_lst (pa_cons (pv 0) pa_nil)))
      (pss_cons (ps_for PassesOwn.never rfl (pi_seqK K (pe_ifExp (pt_cmpR (op_inK K) (pe_ix (ix_seqK K) (pv 0) pe_int (fun _ _ => rfl)) (pe_lst (pa_cons pe_str (pa_cons pe_str pa_nil))) (by rfl)) (pe_ix (ix_seqK K) (pv 0) (pe_un un_neg pe_int) (fun _ _ => rfl)) (pe_tup pa_nil))) (pg_name (i := 2) sc_law_knots.nd rfl (Or.inl rfl)) (pss_one (ps_set (i := 1) sc_law_knots.nd rfl (Or.inl rfl) (pe_op (op_addK K) (pv 1) (pe_callC C_law_knots (hr.mono (by omega)) rfl pass0 (pa_cons (pv 2) pa_nil))))))
      (pss_one (ps_ret (pv 1))))), ?_⟩
    have a : At Fm.pure B H B H := At.start (Ok.any e)
    have hdd := hs.dep (by decide)
    have hND := ND_eq hdd
    have kids : ∀ B1 (o : Option V) (vf : V), Ex B B1 → ED Fm.pure K (tIf (tTest (tOp (rIn K false) (tOp (rIx K) (tVar 0) (tC (.int 0))) (tLst (tCons (tC (.str "plain")) (tCons (tC (.str "graft")) tNil))))) (tOp (rIx K) (tVar 0) (tUn (rU fun i => .int (-i)) (tC (.int 1)))) (tTup tNil)) [some v, some vf, o] B1 (.tuple (kidsD d)) := by
      intro B1 o vf e1
      have go : ∀ (s : Str) (ps : List PyData), d = .tuple (.str s :: ps) → (inS s ["plain", "graft"] = true → atI (.str s :: ps) (-1) = some (.tuple (kidsD d))) → (inS s ["plain", "graft"] = false → kidsD d = []) → ED Fm.pure K (tIf (tTest (tOp (rIn K false) (tOp (rIx K) (tVar 0) (tC (.int 0))) (tLst (tCons (tC (.str "plain")) (tCons (tC (.str "graft")) tNil))))) (tOp (rIx K) (tVar 0) (tUn (rU fun i => .int (-i)) (tC (.int 1)))) (tTup tNil)) [some v, some vf, o] B1 (.tuple (kidsD d)) := by
        rintro s ps rfl h1 h2
        refine ev_if (b := inS s ["plain", "graft"]) (et_cmp (inSL (ed_op (ed_var rfl (hv.up e1)) ed_int (rd_ixT atc_0)) pg2)) (fun hb => ?_) (fun hb => ?_)
        · exact ed_op (ed_var rfl (hv.up e1)) (ed_ng ed_int) (rd_ixT (h1 hb))
        · rw [h2 hb]
          exact ed_tup eds_nil
      have hkn := okN_kn hok
      cases hkn with
      | foot => exact go "foot" [] rfl (fun h => absurd h (by decide +kernel)) (fun _ => kids_foot)
      | word w0 _ => exact go "word" [w0] rfl (fun h => absurd h (by decide +kernel)) (fun _ => kids_word w0)
      | plain ks => exact go "plain" [.tuple ks] rfl (fun _ => by rw [kids_plain]; exact last2) (fun h => absurd h (by decide +kernel))
      | graft k ks _ _ => exact go "graft" [.int k, .tuple ks] rfl (fun _ => by rw [kids_graft]; exact last3) (fun h => absurd h (by decide +kernel))
    refine qv_asg (P := DD K (.list [d])) a (ed_lst (eds_cons (ed_var rfl hv) eds_nil)) fun vf B1 H1 e1 a1 hf => ?_
    refine qd_for (K := K) (ds := kidsD d) a1 (ev_seqT (kids B1 _ vf e1)) (fun i σ' B' => ∃ vg o, σ' = [some v, some vg, o] ∧ Dd K B' vg (.list (d :: ((kidsD d).take i).flatMap ND))) (fun B2 e2 => ⟨vf, none, rfl, hf.up e2⟩) ?_ ?_
    · rintro Bb i u c σ' B2 H2 eb hc hu e2 a2 ⟨vg, o, rfl, hg⟩
      have hm : c ∈ kidsD d := List.mem_of_getElem? hc
      have hcd := kids_dep hm
      have hcl := ND_kid_len hdd hm
      have hdl : (d :: ((kidsD d).take (i + 1)).flatMap ND).length ≤ 1000 := by
        refine Nat.le_trans ?_ hl
        rw [hND, List.length_cons, List.length_cons]
        have h1 : (((kidsD d).take (i + 1)).flatMap ND).length ≤ ((kidsD d).flatMap ND).length := by
          have h2 : (kidsD d).flatMap ND = ((kidsD d).take (i + 1)).flatMap ND ++ ((kidsD d).drop (i + 1)).flatMap ND := by rw [← List.flatMap_append, List.take_append_drop]
          rw [h2, List.length_append]
          omega
        omega
      rw [take_snoc hc, List.flatMap_append, List.flatMap_cons, List.flatMap_nil, List.append_nil, List.length_cons, List.length_append] at hdl
      refine sv_asg (P := DD K (.list ((d :: ((kidsD d).take i).flatMap ND) ++ ND c))) a2 (ed_op (ed_var rfl hg) (ed_F (eds_cons (ed_var rfl hu) eds_nil) ⟨c, n, rfl, okN_kid hdd hok hm, by omega, (kids_sm hs hm).le (by decide), kids_wi hw hm, by omega⟩ rfl) (rd_addL (by rw [List.length_cons]; omega))) fun v4 B4 H4 e4 a4 h4 => ?_
      refine ⟨B4, e2.trans e4, a4, v4, _, rfl, ?_⟩
      rw [take_snoc hc, List.flatMap_append, List.flatMap_cons, List.flatMap_nil, List.append_nil]
      exact h4
    · rintro σ' B2 H2 e2 a2 ⟨vg, o, rfl, hg⟩
      rw [List.take_length, ← hND] at hg
      exact sv_ret (P := DD K (.list (ND d))) a2 (ed_var rfl hg) fun v5 B5 H5 e5 a5 h5 => q v5 B5 H5 a5.st h5
theorem call_law_knots {f : Addr} (d : DFact K "_law_knots" s_law_knots f) (T : TC K mg) {h : Heap} (X : K.In h) (G : h.Ns mainGlobals mg) : ∀ m : Nat, Callee P w K mg base "_law_knots" (m + 1) ["knot"] (spF K (preLK m) fAll)
  | 0 => d.callee X G (fun fd F => ok_law_knots0 F) (fun fd F => F.binds fun _ _ _ _ _ _ us hl => match us, hl with | [_], _ => rfl)
  | m + 1 => d.callee X G (fun fd F => ok_law_knotsS m F T (call_law_knots d T X G m)) (fun fd F => F.binds fun _ _ _ _ _ _ us hl => match us, hl with | [_], _ => rfl)

abbrev s_law_tree_steps : Stmt := topS 43
abbrev N_law_tree_steps : List Str := ["trees", "found", "kind", "knot", "every", "grafts", "one"]
theorem sc_law_tree_steps : FnScope N_law_tree_steps ["trees"] (defScope s_law_tree_steps) := ⟨rfl, rfl, rfl, by decide +kernel, rfl, by decide +kernel, by decide +kernel⟩
/-! ### _law_tree_steps -/
def fTs : List PyData → PyData
  | [d] => .list ((edgesT (itemsD d)).map toD)
  | _ => .none
/-- a tree that is looked at -/
def TrOk (n : Int) (t : PyData) : Prop := treeD t n = true ∧ Sm 20 t ∧ Wi t
def preTs (ds : List PyData) : Prop := ∃ d ts n, ds = [d] ∧ (d = .list ts ∨ d = .tuple ts) ∧ ts.length ≤ 100 ∧ ∀ t ∈ ts, TrOk n t
theorem edgesT_snoc1 {rs : List PyData} {i : Nat} {r : PyData} (h : rs[i]? = some r) (ho : isOneT r = true) : edgesT (rs.take (i + 1)) = edgesT (rs.take i) ++ [edgeT r] := by
  rw [take_snoc h]
  unfold edgesT
  rw [List.filter_append, List.map_append, List.filter_cons, if_pos ho]
  rfl
theorem edgesT_snoc0 {rs : List PyData} {i : Nat} {r : PyData} (h : rs[i]? = some r) (ho : isOneT r = false) : edgesT (rs.take (i + 1)) = edgesT (rs.take i) := by
  rw [take_snoc h]
  unfold edgesT
  rw [List.filter_append, List.filter_cons, if_neg (by rw [ho]; decide), List.filter_nil, List.append_nil]
theorem TrOk.is {n : Int} {t : PyData} (h : TrOk n t) : ∃ (k : Int) (x : PyData), t = .tuple [.int k, x] ∧ TreeIs n k x ∧ Sm 19 x ∧ Wi x := by
  obtain ⟨k, x, rfl, T⟩ := treeD_is h.1
  exact ⟨k, x, rfl, T, h.2.1.memT (by simp), h.2.2.mem (by simp)⟩
theorem filt_one {p : PyData → Bool} {ds : List PyData} {n : Nat} : PyData.eqv (.int (lenD (.list ((ds.filter p).map fun d => d)))) (.int (n : Nat)) = decide ((ds.filter p).length = n) := by
  rw [List.map_id', eqv_int]
  show ((((ds.filter p).length : Nat) : Int) == (n : Nat)) = _
  rw [Bool.eq_iff_iff, beq_iff_eq, decide_eq_true_eq]
  omega
theorem filt_nil {p : PyData → Bool} {ds : List PyData} : PyData.eqv (.list ((ds.filter p).map fun d => d)) (.list []) = decide ((ds.filter p).length = 0) := by
  rw [List.map_id', eqv_nil, Bool.eq_iff_iff, List.isEmpty_iff, decide_eq_true_eq, List.length_eq_zero_iff]
theorem kn_sm {x y : PyData} {n : Int} {m : Nat} (hs : Sm m x) (hm : m ≤ 60) (hy : y ∈ ND x) : Sm m y := by
  have key : ∀ (k : Nat) (x : PyData), Sm m x → y ∈ nodes k x → Sm m y := fun k => by
    induction k with
    | zero => intro x _ h; cases h
    | succ k ih =>
      intro x hx h
      rcases List.mem_cons.mp h with rfl | h
      · exact hx
      · obtain ⟨c, hc, h2⟩ := List.mem_flatMap.mp h
        exact ih c ((kids_sm hx hc).le (by omega)) h2
  exact key 64 x hs hy
set_option maxHeartbeats 8000000 in
theorem ok_law_tree_steps (F : Fun K "_law_tree_steps" "_law_tree_steps" s_law_tree_steps f fd) (T : TC K mg) (C_law_knots : Callee P w K mg base "_law_knots" 20 ["knot"] (spF K (preLK 19) fAll)) : FnOk P w K mg base CX0 21 f fd ["trees"] (spF K preTs fTs) := by
  refine F.ok sc_law_tree_steps (fun vs H Q E h => ?_) (fun cdv A outer s H vs Q E hr h => ?_)
  · obtain ⟨B, ds, e, hd, ⟨d, ts, n, rfl, _⟩, q⟩ := h
    exact hd.len
  · obtain ⟨B, ds, e, hd, ⟨d, ts, n, rfl, hts, hl, hval⟩, q⟩ := h
    obtain ⟨v, rfl, hv⟩ := arg1 hd
    have hu64 : (A.deeper (envOfC "_law_tree_steps" (defScope s_law_tree_steps) s.heap.objs.size f cdv)).units + 64 < cLine := hr.units
    refine ⟨_, (pss_cons (ps_set (i := 1) sc_law_tree_steps.nd rfl (Or.inl rfl) (pe_lst pa_nil))
      (pss_cons (ps_for PassesOwn.never rfl (pi_seqK K (pv 0)) (pg_tup (by rfl) (pgs_cons (pg_name (i := 2) sc_law_tree_steps.nd rfl (Or.inl rfl)) (pgs_cons (pg_name (i := 3) sc_law_tree_steps.nd rfl (Or.inl rfl)) pgs_nil))) (pss_cons (ps_set (i := 4) sc_law_tree_steps.nd rfl (Or.inl rfl) (pe_callC C_law_knots (hr.mono (by decide)) rfl pass0 (pa_cons (pv 3) pa_nil)))
      (pss_cons (ps_setLc (i := 5) (own := [("one", 6)]) rfl sc_law_tree_steps.nd rfl rfl (sw_true rfl rfl rfl (by decide +kernel)) (pi_seqK K (pv 4)) (blkOk_by (own := [("one", 6)]) (N := N_law_tree_steps) (sc := defScope s_law_tree_steps) (by decide +kernel)) (fun _ _ _ _ _ => pg_name (i := 6) sc_law_tree_steps.nd rfl (Or.inl rfl)) (fun _ _ _ _ _ => (pts_one (pt_cmpR (op_eqDK K hu64) (pe_ix (ix_seqK K) (pv 6) pe_int (fun _ _ => rfl)) pe_str (nomark _)))) (fun _ _ _ _ _ => (pv 6)))
      (pss_one (ps_if (PW.pt (pw_and (pt_cmpR (op_eqDK K hu64) (pe_callB (call_lenK K) (by rfl) T.m_len bt_len (pa_cons (pv 5) pa_nil)) pe_int (nomark _)) (pw_and1 (pt_cmpR (op_eqDK K hu64) (pe_lc (own := [("one", 6)]) rfl sc_law_tree_steps.nd (pi_seqK K (pv 4)) (blkOk_by (own := [("one", 6)]) (N := N_law_tree_steps) (sc := defScope s_law_tree_steps) (by decide +kernel)) (fun _ _ _ _ _ => pg_name (i := 6) sc_law_tree_steps.nd rfl (Or.inl rfl)) (fun _ _ _ _ _ => (pts_one (pt_cmpR (op_eqDK K hu64) (pe_ix (ix_seqK K) (pv 6) pe_int (fun _ _ => rfl)) pe_str (nomark _)))) (fun _ _ _ _ _ => (pv 6))) (pe_lst pa_nil) (nomark _))))) (pss_one (ps_expr (pe_bm PySem.F.plainAttrs_list PySem.F.slot_list_append PySem.F.type_list_append mt_append (pv 1) (pa_cons (pe_tup (pa_cons (pv 2) (pa_cons (pe_ix (ix_seqK K) (pe_ix (ix_seqK K) (pv 5) pe_int (fun _ _ => rfl)) pe_int (fun _ _ => rfl)) pa_nil))) pa_nil)))) pss_nil)))))
      (pss_one (ps_ret (pv 1))))), ?_⟩
    have fi : fTs [d] = .list ((edgesT ts).map toD) := by rcases hts with rfl | rfl <;> rfl
    refine qs_new (Ok.any e) fun na S0 => ?_
    have sq : EV Fm.pure (tVar 0) [some v, some (.ref na), none, none, none, none, none] B (SqV K (DDs K ts)) := by
      rcases hts with rfl | rfl
      · exact ev_seqL (ed_var rfl hv)
      · exact ev_seqT (ed_var rfl hv)
    refine q_forP (K := K) (ds := ts) S0.ok sq (fun t ht => by obtain ⟨k, x, rfl, _⟩ := (hval t ht).is; exact ⟨_, _, rfl⟩) (fun i σ' B' H' => ∃ o2 o3 o4 o5 o6 xs, σ' = [some v, some (.ref na), o2, o3, o4, o5, o6] ∧ S1 B H B' H' na xs ∧ DdAll K B' xs ((edgesT (ts.take i)).map toD)) (fun i σ' B' H' ⟨_, _, _, _, _, _, _, S, _⟩ => S.st.bh) (fun B1 H1 s1 => ⟨_, _, _, _, _, [], rfl, S0.pass s1, .nil⟩) ?_ ?_
    · rintro Bb i kk x uk ux σ' B1 H1 hi eb e1 huk hux ⟨o2, o3, o4, o5, o6, xs, rfl, S, hxs⟩
      have hT := hval _ (List.mem_of_getElem? hi)
      obtain ⟨k, x', hkx, TI, hsx, hwx⟩ := hT.is
      obtain ⟨rfl, rfl⟩ : kk = .int k ∧ x = x' := by cases hkx; exact ⟨rfl, rfl⟩
      have hex := hsx.le (show 19 ≤ 60 by decide)
      refine qs_asg (P0 := DD K (.list (ND x))) S (ed_F (eds_cons (ed_var rfl hux) eds_nil) ⟨x, n, rfl, TI.ok, hsx.2, hex, hwx, by have := TI.len; omega⟩ rfl) fun ve B2 H2 S2 e2 he => ?_
      have flt : ∀ (s : Str) Bx (o5 : Option V), Ex B2 Bx → s.length ≤ sizeLine → SeqAt.shaped (.str s) = true → ED Fm.pure K (tLc (iSeq K (tVar 4)) (gName 6) (tTest (tOp (rEqD K) (tOp (rIx K) (tVar 6) (tC (.int 0))) (tC (.str s)))) (tVar 6) [6]) [some v, some (.ref na), some uk, some ux, some ve, o5, o6] Bx (.list (((ND x).filter fun y => isS (hdD y) s).map fun y => y)) := fun s Bx o5 ex hls hss =>
        ed_lcD (fun y => isS (hdD y) s) (fun y => y) (ev_seqL (ed_var rfl (Dd.up he ex))) (by have := TI.len; omega) (fun _ => rfl) (fun y u B3 hm _ hu => et_hd rfl hu (okN_mem TI.ok hm) hls hss) (fun y u B3 hm hp _ hu => ed_var rfl hu)
      refine qs_asg (P0 := DD K (.list (((ND x).filter fun y => isS (hdD y) "graft").map fun y => y))) S2 (flt "graft" B2 _ (Ex.refl B2) (by decide) (by decide +kernel)) fun vg B3 H3 S3 e3 hg => ?_
      have hone : isOneT (.tuple [.int k, x]) = (decide (((ND x).filter fun y => isS (hdD y) "graft").length = 1) && decide (((ND x).filter fun y => isS (hdD y) "word").length = 0)) := by
        show (decide (cnt "word" (ND x) = 0) && decide ((grafts x).length = 1)) = _
        rw [Bool.and_comm, ← cnt_filter "word"]
        rfl
      refine ss_if (b := isOneT (.tuple [.int k, x])) S3 (by
        rw [hone]
        refine et_and (et_is (et_cmp (ed_op (K := K) (ev_cb (eds_cons (ed_var rfl hg) eds_nil) (rc_len rfl)) ed_int (rd_eqD rfl rfl))) filt_one) fun _ => ?_
        exact et_is (et_cmp (ed_op (K := K) (flt "word" B3 _ e3 (by decide) (by decide +kernel)) (ed_lst eds_nil) (rd_eqD (Sm.sh (sm_filter (n := 60) fun y hy => kn_sm (n := n) hex (by decide) hy)) rfl))) filt_nil) (fun ho B4 H4 S4 e4 => ?_) (fun ho B4 H4 S4 e4 => ?_)
      · obtain ⟨k', c, x'', y, hkx2, hgr, hgk, _, _, _, _, hedge⟩ := oneT_is hT.1 ho
        obtain ⟨rfl, rfl⟩ : k = k' ∧ x = x'' := by cases hkx2; exact ⟨rfl, rfl⟩
        obtain ⟨c', ks, rfl, _, _⟩ := graft_is TI.ok (y := y) (by rw [hgr]; exact List.mem_singleton.mpr rfl)
        obtain rfl : c' = c := by cases hgk; rfl
        have hg4 : Dd K B4 vg (.list [.tuple [.str "graft", .int c', .tuple ks]]) := by
          have h := Dd.up hg e4
          rw [List.map_id'] at h
          rw [← hgr]
          exact h
        have hxl := hxs.len
        have hel := edgesT_len (ts.take i)
        rw [List.length_map] at hxl
        rw [List.length_take] at hel
        refine ss_app (K := K) (d := toD (k, c')) S4 rfl (ed_tup (eds_cons (ed_var rfl (((huk.up e2).up e3).up e4)) (eds_cons (ed_op (ed_op (ed_var rfl hg4) ed_int (rd_ixL (atI_nat (j := 0) rfl))) ed_int (rd_ixT atc_1)) eds_nil))) (by omega) fun v5 B5 H5 S5 e5 h5 => ?_
        refine ⟨B5, e1.trans (e2.trans (e3.trans (e4.trans e5))), _, _, _, _, _, _, rfl, S5, ?_⟩
        rw [edgesT_snoc1 hi ho, hedge, List.map_append]
        exact (hxs.up (e2.trans (e3.trans (e4.trans e5)))).snoc h5
      · refine ⟨B4, e1.trans (e2.trans (e3.trans e4)), _, _, _, _, _, _, rfl, S4, ?_⟩
        rw [edgesT_snoc0 hi ho]
        exact hxs.up (e2.trans (e3.trans e4))
    · rintro σ' B1 H1 e1 ⟨o2, o3, o4, o5, o6, xs, rfl, S, hxs⟩
      rw [List.take_length] at hxs
      refine ⟨.ref na, rfl, ?_⟩
      obtain ⟨s9, g9⟩ := S.data hxs (by rw [List.length_map]; have := edgesT_len ts; omega)
      refine q (.ref na) _ H1 s9 ?_
      rw [fi]
      exact g9

end
end K20

namespace K20
open PySem PySem.Spec PyProof.Rows L2 Evl Ex Dx
open PySem.PyData (strOk)

section
variable {P : Program} {w : World} {K : PySem.W.Frag} {mg : Str → Option Value} {base : Heap} {f : Addr} {fd : FuncData}
section
variable {B0 H0 B H : Hp} {na : Addr} {xs : List V} {σ : L2.St} {tas : TA} {tu tz : TS} {i : Nat} {D : Ends} {ds : List PyData}
theorem qs_newL (k0 : Ok Fm.pure B H) (h : EDs Fm.pure K tas σ B ds) (hl : ds.length ≤ 16777216) (k : ∀ na vs B5 H5, S1 B H B5 H5 na vs → Ex B B5 → DdAll K B5 vs ds → tz D (σ.set i (some (.ref na))) H5) : tSeq (tAsg (tLst tas) (gName i)) tz D σ H :=
  h B (Ex.refl B) H k0 _ fun vs B5 H5 s5 j5 p => ⟨by rw [DdAll.len p, sizeLine_eq]; exact hl, fun na hna => by
    have n0 : H na = none := by
      cases hh : H na with
      | none => rfl
      | some o => exact absurd hna (s5.live na (by rw [hh]; exact fun z => nomatch z))
    have bn := fresh_back j5.e hna
    exact k na vs B5 _ ⟨step_set s5 n0 bn, n0, bn, upd_same⟩ s5.bb p⟩
theorem qs_emp (m : S1 B0 H0 B H na xs) (hx : DdAll K B xs ds) (hsh : SeqAt.shaped (.list ds) = true) (hl : ds.length ≤ 16777216) (hi : σ[i]? = some (some (.ref na))) (h1 : ds = [] → ∀ B5 H5, S1 B0 H0 B5 H5 na xs → Ex B B5 → tu { D with nx := tz D } σ H5) (h2 : ds ≠ [] → ∀ B5 H5, S1 B0 H0 B5 H5 na xs → Ex B B5 → tz D σ H5) : tSeq (tIfS (tTest (tOp (rEqD K) (tVar i) (tLst tNil))) tu tNext) tz D σ H := by
  refine ⟨.ref na, hi, Nat.zero_le _, fun p hp => ?_⟩
  have s5 : Step (fun _ => False) B H (upd B p (.lst [])) (upd H p (.lst [])) := Step.alloc m.st.bh hp
  have m5 := m.pass s5
  have d1 : Dd K (upd H p (.lst [])) (.ref na) (.list ds) := .lst m5.hn (by rw [hx.len, sizeLine_eq]; exact hl) (hx.up (s5.bb.trans s5.bh))
  have d2 : Dd K (upd H p (.lst [])) (.ref p) (.list []) := .lst upd_same (Nat.zero_le _) .nil
  refine ⟨.list ds, .list [], Dd.dp _ _ d1, Dd.dp _ _ d2, hsh, rfl, _, rfl, ?_⟩
  rw [eqv_nil]
  cases ds with
  | nil => exact h1 rfl _ _ m5 s5.bb
  | cons d ds => exact h2 (fun z => nomatch z) _ _ m5 s5.bb
end

abbrev s_law_is_good_tree : Stmt := topS 44
abbrev N_law_is_good_tree : List Str := ["tree", "every", "one"]
theorem sc_law_is_good_tree : FnScope N_law_is_good_tree ["tree"] (defScope s_law_is_good_tree) := ⟨rfl, rfl, rfl, by decide +kernel, rfl, by decide +kernel, by decide +kernel⟩
def fGood : List PyData → PyData
  | [.tuple [_, x]] => .bool (goodL (ND x))
  | _ => .none
def preGood (ds : List PyData) : Prop := ∃ k x n, ds = [.tuple [k, x]] ∧ okN x n = true ∧ Sm 19 x ∧ Wi x ∧ (ND x).length ≤ 1000
theorem isS_in2 {x : PyData} {n : Int} (h : Kn n x) : inS (shS x) ["plain", "graft"] = (isS (hdD x) "plain" || isS (hdD x) "graft") := by
  rw [in2, isS_shS h, isS_shS h]
theorem in2w (s : Str) : inS s ["word", "graft"] = ((s == ("word" : Str)) || (s == ("graft" : Str))) := by
  unfold inS
  rw [List.any_cons, List.any_cons, List.any_nil, Bool.or_false, Bool.eq_iff_iff]
  simp only [Bool.or_eq_true, beq_iff_eq]
  constructor
  · rintro (h | h)
    · exact .inl h.symm
    · exact .inr h.symm
  · rintro (h | h)
    · exact .inl h.symm
    · exact .inr h.symm
theorem filter_any {p : PyData → Bool} {ds : List PyData} : PyData.eqv (.list ((ds.filter p).map fun d => d)) (.list []) = !ds.any p := by
  rw [eqv_nil, List.map_id', filter_emp, ← List.not_any_eq_all_not]
theorem ok_law_is_good_tree (F : Fun K "_law_is_good_tree" "_law_is_good_tree" s_law_is_good_tree f fd) (T : TC K mg) (C_law_knots : Callee P w K mg base "_law_knots" 20 ["knot"] (spF K (preLK 19) fAll)) : FnOk P w K mg base CX0 21 f fd ["tree"] (spF K preGood fGood) := by
  refine F.ok sc_law_is_good_tree (fun vs H Q E h => ?_) (fun cdv A outer s H vs Q E hr h => ?_)
  · obtain ⟨B, ds, e, hd, ⟨k, x, n, rfl, _⟩, q⟩ := h
    exact hd.len
  · obtain ⟨B, ds, e, hd, ⟨k, x, n, rfl, hok, hsx, hwx, hl⟩, q⟩ := h
    obtain ⟨v, rfl, hv⟩ := arg1 hd
    have hu64 : (A.deeper (envOfC "_law_is_good_tree" (defScope s_law_is_good_tree) s.heap.objs.size f cdv)).units + 64 < cLine := hr.units
    refine ⟨_, (pss_cons (ps_set (i := 1) sc_law_is_good_tree.nd rfl (Or.inl rfl) (pe_callC C_law_knots (hr.mono (by decide)) rfl pass0 (pa_cons (pe_ix (ix_seqK K) (pv 0) pe_int (fun _ _ => rfl)) pa_nil)))
      (pss_one (ps_ret (pe_and (pe_cmpR op_le (pe_callB (call_lenK K) (by rfl) T.m_len bt_len (pa_cons (pv 1) pa_nil)) pe_int (nomark _)) (pe_one (pe_cmpR (op_neDK K hu64) (pe_lc (own := [("one", 2)]) rfl sc_law_is_good_tree.nd (pi_seqK K (pv 1)) (blkOk_by (own := [("one", 2)]) (N := N_law_is_good_tree) (sc := defScope s_law_is_good_tree) (by decide +kernel)) (fun _ _ _ _ _ => pg_name (i := 2) sc_law_is_good_tree.nd rfl (Or.inl rfl)) (fun _ _ _ _ _ => (pts_one (pt_cmpR (op_inK K) (pe_ix (ix_seqK K) (pv 2) pe_int (fun _ _ => rfl)) (pe_lst (pa_cons pe_str (pa_cons pe_str pa_nil))) (by rfl)))) (fun _ _ _ _ _ => (pv 2))) (pe_lst pa_nil) (nomark _))))))), ?_⟩
    have a : At Fm.pure B H B H := At.start (Ok.any e)
    have hex := hsx.le (show 19 ≤ 60 by decide)
    refine qv_asg (P := DD K (.list (ND x))) a (ed_F (eds_cons (ed_op (ed_var rfl hv) ed_int (rd_ixT atc_1)) eds_nil) ⟨x, n, rfl, hok, hsx.2, hex, hwx, hl⟩ rfl) fun ve B2 H2 e2 a2 he => ?_
    refine sv_ret (P := DD K (.bool (goodL (ND x)))) a2 (ed_andV (b := decide ((ND x).length ≤ 12)) (c := wgD (ND x)) (ed_is (ed_op (ev_cb (eds_cons (ed_var rfl he) eds_nil) (rc_len rfl)) ed_int rd_le) ?_) fun _ => ed_is (ed_op (ed_lcD (fun y => isS (hdD y) "word" || isS (hdD y) "graft") (fun y => y) (ev_seqL (ed_var rfl he)) (by omega) (fun _ => rfl) (fun y u B3 hm _ hu => ?_) (fun y u B3 hm hp _ hu => ed_var rfl hu)) (ed_lst eds_nil) (rd_neD (Sm.sh (sm_filter (n := 60) fun y hy => kn_sm (n := n) hex (by decide) hy)) rfl)) ?_) fun v1 B3 H3 e3 a3 h3 => q v1 B3 H3 a3.st h3
    · show PyData.bool (decide ((((ND x).length : Nat) : Int) ≤ 12)) = _
      refine congrArg PyData.bool ?_
      rw [Bool.eq_iff_iff, decide_eq_true_eq, decide_eq_true_eq]
      omega
    · have hkn := okN_mem hok hm
      obtain ⟨s0, ps, rfl, hs0, _⟩ := kn_hd hkn
      exact et_is (et_cmp (inSL (ed_op (ed_var rfl hu) ed_int (rd_ixT atc_0)) pyStr2)) (in2w s0)
    · rw [filter_any, Bool.not_not]
      rfl

abbrev s_law_are_knots : Stmt := topS 48
abbrev N_law_are_knots : List Str := ["value", "kinds", "todo", "turn", "one"]
theorem sc_law_are_knots : FnScope N_law_are_knots ["value", "kinds"] (defScope s_law_are_knots) := ⟨rfl, rfl, rfl, by decide +kernel, rfl, by decide +kernel, by decide +kernel⟩
/-! ### _law_are_knots -/
theorem mem_cutL' {α : Type} {x : α} {ds : List α} {lo hi : Option Int} (h : x ∈ cutL ds lo hi) : x ∈ ds := List.mem_of_mem_drop (List.mem_of_mem_take h)
def fKs : List PyData → PyData
  | [d, .int n] => .bool (okN d n && decide ((ND d).length < 60))
  | _ => .none
theorem bgK_not {y : PyData} {n : Int} (h : isTupD y = false) : bgK y n = false := by
  cases y <;> first | rfl | cases h
theorem kids_short {s : Str} {ps : List PyData} (h : (s == ("plain" : Str)) = false) (h2 : (s == ("graft" : Str)) = false) : kidsD (.tuple (.str s :: ps)) = [] := by
  unfold kidsD
  split
  · rename_i s' ks he
    cases he
    rw [h, if_neg (by decide)]
  · rename_i s' x ks he
    cases he
    rw [h2, if_neg (by decide)]
  · rfl
theorem getD0 {p : PyData} {ps : List PyData} : (p :: ps).getD 0 .none = p := rfl
set_option maxHeartbeats 16000000 in
theorem ok_law_are_knots (F : Fun K "_law_are_knots" "_law_are_knots" s_law_are_knots f fd) (T : TC K mg) (C_law_is_word : Callee P w K mg base "_law_is_word" 1 ["value"] (spF K (fun ds => ∃ d, ds = [d] ∧ Sm 60 d) fWord)) (C_law_is_numbers : Callee P w K mg base "_law_is_numbers" 2 ["value", "many"] (spF K (fun ds => ∃ d n, ds = [d, .int n] ∧ Sm 60 d) fNums)) : FnOk P w K mg base CX0 3 f fd ["value", "kinds"] (spF K (fun ds => ∃ d n, ds = [d, .int n] ∧ Sm 50 d ∧ Wi d) fKs) := by
  refine F.ok sc_law_are_knots (fun vs H Q E h => ?_) (fun cdv A outer s H vs Q E hr h => ?_)
  · obtain ⟨B, ds, e, hd, ⟨d, n, rfl, _⟩, q⟩ := h
    exact hd.len
  · obtain ⟨B, ds, e, hd, ⟨d, n, rfl, hs, hw⟩, q⟩ := h
    obtain ⟨v, v2, rfl, hv, hn⟩ := arg2 hd
    obtain rfl := dd_int hn
    have hu64 : (A.deeper (envOfC "_law_are_knots" (defScope s_law_are_knots) s.heap.objs.size f cdv)).units + 64 < cLine := hr.units
    refine ⟨_, (pss_cons (ps_set (i := 2) sc_law_are_knots.nd rfl (Or.inl rfl) (pe_lst (pa_cons (pv 0) pa_nil)))
      (pss_cons (ps_for PassesOwn.never rfl (pi_range1 rfl T.m_range (pa_cons pe_int pa_nil)) (pg_name (i := 3) sc_law_are_knots.nd rfl (Or.inl rfl)) (pss_cons (ps_if (pt_cmpR (op_eqDK K hu64) (pv 2) (pe_lst pa_nil) (nomark _)) (pss_one (ps_ret pe_bl)) pss_nil)
      (pss_cons (ps_set (i := 4) sc_law_are_knots.nd rfl (Or.inl rfl) (pe_bm0 PySem.F.plainAttrs_list PySem.F.slot_list_pop PySem.F.type_list_pop mt_pop (pv 2)))
      (pss_cons (ps_if (PW.pt (pw_or (pt_not (pt_val (pe_callB (call_isiK1 K) (by rfl) T.m_isinstance bt_isinstance (pa_cons (pv 4) (pa_cons (pe_bltn (v := .ty "tuple") (by rfl) T.m_tuple bt_tuple rfl) pa_nil))))) (pw_or (pt_cmpR (op_eqDK K hu64) (pv 4) (pe_tup pa_nil) (nomark _)) (pw_or1 (pt_not (pt_val (pe_callB (call_isiK1 K) (by rfl) T.m_isinstance bt_isinstance (pa_cons (pe_ix (ix_seqK K) (pv 4) pe_int (fun _ _ => rfl)) (pa_cons (pe_bltn (v := .ty "str") (by rfl) T.m_str bt_str rfl) pa_nil))))))))) (pss_one (ps_ret pe_bl)) pss_nil)
      (pss_one (ps_if (pt_cmpR (op_eqDK K hu64) (pe_ix (ix_seqK K) (pv 4) pe_int (fun _ _ => rfl)) pe_str (nomark _)) (pss_one (ps_if (PW.pt (pw_or (pt_cmpR (op_neDK K hu64) (pe_callB (call_lenK K) (by rfl) T.m_len bt_len (pa_cons (pv 4) pa_nil)) pe_int (nomark _)) (pw_or1 (pt_not (pt_val (pe_callC C_law_is_word (hr.mono (by decide)) rfl pass0 (pa_cons (pe_ix (ix_seqK K) (pv 4) pe_int (fun _ _ => rfl)) pa_nil))))))) (pss_one (ps_ret pe_bl)) pss_nil)) (pss_one (ps_if (pt_cmpR (op_eqDK K hu64) (pe_ix (ix_seqK K) (pv 4) pe_int (fun _ _ => rfl)) pe_str (nomark _)) (pss_one (ps_if (pt_cmpR (op_neDK K hu64) (pe_callB (call_lenK K) (by rfl) T.m_len bt_len (pa_cons (pv 4) pa_nil)) pe_int (nomark _)) (pss_one (ps_ret pe_bl)) pss_nil)) (pss_one (ps_if (PW.pt (pw_or (pt_cmpR (op_ninK K) (pe_ix (ix_seqK K) (pv 4) pe_int (fun _ _ => rfl)) (pe_lst (pa_cons pe_str (pa_cons pe_str pa_nil))) (by rfl)) (pw_or (pt_cmpR (op_neDK K hu64) (pe_callB (call_lenK K) (by rfl) T.m_len bt_len (pa_cons (pv 4) pa_nil)) (pe_op (op_addK K) pe_int (pe_callTy call_int1 (by rfl) T.m_int bt_int (pa_cons (pe_cmpR (op_eqDK K hu64) (pe_ix (ix_seqK K) (pv 4) pe_int (fun _ _ => rfl)) pe_str (nomark _)) pa_nil))) (nomark _)) (pw_or1 (pt_not (pt_val (pe_callB (call_isiK1 K) (by rfl) T.m_isinstance bt_isinstance (pa_cons (pe_ix (ix_seqK K) (pv 4) (pe_un un_neg pe_int) (fun _ _ => rfl)) (pa_cons (pe_bltn (v := .ty "tuple") (by rfl) T.m_tuple bt_tuple rfl) pa_nil))))))))) (pss_one (ps_ret pe_bl)) (pss_one (ps_if (PW.pt (pw_and (pt_cmpR (op_eqDK K hu64) (pe_ix (ix_seqK K) (pv 4) pe_int (fun _ _ => rfl)) pe_str (nomark _)) (pw_and1 (pt_not (pt_val (pe_callC C_law_is_numbers (hr.mono (by decide)) rfl pass0 (pa_cons (pe_slice (sl_anyK K) (pv 4) (po_some pe_int) (po_some pe_int)) (pa_cons (pv 1) pa_nil)))))))) (pss_one (ps_ret pe_bl)) (pss_one (ps_set (i := 2) sc_law_are_knots.nd rfl (Or.inl rfl) (pe_op (op_addK K) (pv 2) (pe_callTy (call_list_ofK K) (by rfl) T.m_list bt_list (pa_cons (pe_ix (ix_seqK K) (pv 4) (pe_un un_neg pe_int) (fun _ _ => rfl)) pa_nil)))))))))))))))))
      (pss_one (ps_ret pe_bl)))), ?_⟩
    have fin : ∀ b B1 H1, Step (fun _ => False) B H B1 H1 → b = (okN d n && decide ((ND d).length < 60)) → Q (.bl b) H1 := fun b B1 H1 s1 eb => by
      refine q _ B1 H1 s1 ?_
      show Dd K B1 (.bl b) (.bool (okN d n && decide ((ND d).length < 60)))
      rw [eb]
      exact .bl _
    refine qs_newL (K := K) (ds := [d]) (Ok.any e) (eds_cons (ed_var rfl hv) eds_nil) (by show 1 ≤ 16777216; decide) fun na0 vs0 B1 H1 S0 e1 hvs0 => ?_
    refine ⟨60, rfl, by decide, by decide, for_range (lo := 0) (n := 60) (fun i σ' H' => ∃ o1 o2 na B' xs vis W, σ' = [some v, some (.int n), some (.ref na), o1, o2] ∧ S1 B H B' H' na xs ∧ DdAll K B' xs W ∧ Wk d vis W ∧ (∀ y ∈ vis, Kn n y) ∧ (∀ y ∈ W, Sm 50 y ∧ Wi y) ∧ vis.length = i ∧ W.length ≤ 1 + 1000 * i) ⟨none, none, na0, B1, vs0, [], [d], rfl, S0, hvs0, Wk.start d, fun y hy => (nomatch hy), fun y hy => by rw [List.mem_singleton.mp hy]; exact ⟨hs, hw⟩, rfl, by show 1 ≤ 1 + 1000 * 0; decide⟩ ?_ ?_⟩
    · rintro i σ' H' hi ⟨o1, o2, na, B', xs, vis, W, rfl, S, hxs, hW, hvis, hsW, hvl, hWl⟩
      have hi' : i < 60 := hi
      refine qs_emp (K := K) (ds := W) S hxs (Sm.sh (sm_lst (n := 50) fun y hy => (hsW y hy).1)) (by omega) rfl (fun hWe B2 H2 S2 e2 => ?_) (fun hWe B2 H2 S2 e2 => ?_)
      · subst hWe
        have hp := hW.done
        have hok : okN d n = true := by
          unfold okN
          rw [← all_perm hp, List.all_eq_true]
          exact fun y hy => kn_bgK (hvis y hy)
        refine fin true B2 H2 S2.st ?_
        rw [hok, decide_eq_true (by rw [← hp.length_eq, hvl]; exact hi')]
        rfl
      obtain ⟨W', y, rfl⟩ := snoc_of hWe
      obtain ⟨xs', vy, rfl, hxs', hy⟩ := ddAll_snoc (hxs.up e2)
      obtain ⟨hsy, hwy⟩ := hsW y (List.mem_append_right _ (List.mem_singleton.mpr rfl))
      have hyd := hsy.dep (by decide)
      have hno : ∀ B5 H5 xs5 na5, S1 B H B5 H5 na5 xs5 → bgK y n = false → Q (.bl false) H5 := fun B5 H5 xs5 na5 S5 hb => by
        refine fin false B5 H5 S5.st ?_
        have : okN d n = false := by
          cases ho : okN d n with
          | false => rfl
          | true =>
            have := kn_bgK (okN_mem ho (hW.mem hyd))
            rw [hb] at this
            cases this
        rw [this]
        rfl
      rw [List.length_append, List.length_singleton] at hWl
      refine qs_pop S2 rfl fun S3 => ?_
      have retF : ∀ (D : Ends) B5 H5 xs5 (σ5 : L2.St), D.rt = Q → S1 B H B5 H5 na xs5 → bgK y n = false → tRet (tC (.bl false)) D σ5 H5 := fun D B5 H5 xs5 σ5 hD S5 hb => by
        refine ss_ret (P := DD K (.bool false)) S5 ed_bl fun v1 B6 H6 S6 e6 h6 => ?_
        obtain rfl := dd_bl h6
        rw [hD]
        exact hno B6 H6 xs5 na S6 hb
      have nxt : ∀ B5 H5 na5 xs5, S1 B H B5 H5 na5 xs5 → Ex B2 B5 → bgK y n = true → DdAll K B5 xs5 (W' ++ kidsD y) → (fun σ' H' => ∃ o1 o2 na B' xs vis W, σ' = [some v, some (.int n), some (.ref na), o1, o2] ∧ S1 B H B' H' na xs ∧ DdAll K B' xs W ∧ Wk d vis W ∧ (∀ y ∈ vis, Kn n y) ∧ (∀ y ∈ W, Sm 50 y ∧ Wi y) ∧ vis.length = i + 1 ∧ W.length ≤ 1 + 1000 * (i + 1)) [some v, some (.int n), some (.ref na5), some (.int (0 + (i : Nat))), some vy] H5 := fun B5 H5 na5 xs5 S5 e5 hb hx5 => by
        have hkl := kids_wl hwy
        refine ⟨_, _, na5, B5, xs5, vis ++ [y], W' ++ kidsD y, rfl, S5, hx5, hW.turn hyd, fun z hz => ?_, fun z hz => ?_, by rw [List.length_append, List.length_singleton, hvl], by rw [List.length_append]; omega⟩
        · rcases List.mem_append.mp hz with h | h
          · exact hvis z h
          · rw [List.mem_singleton.mp h]
            exact bgK_kn hb
        · rcases List.mem_append.mp hz with h | h
          · exact hsW z (List.mem_append_left _ h)
          · exact ⟨(kids_sm hsy h).le (by decide), kids_wi hwy h⟩
      have stay : ∀ B5 H5, S1 B H B5 H5 na xs' → Ex B2 B5 → bgK y n = true → kidsD y = [] → (fun σ' H' => ∃ o1 o2 na B' xs vis W, σ' = [some v, some (.int n), some (.ref na), o1, o2] ∧ S1 B H B' H' na xs ∧ DdAll K B' xs W ∧ Wk d vis W ∧ (∀ y ∈ vis, Kn n y) ∧ (∀ y ∈ W, Sm 50 y ∧ Wi y) ∧ vis.length = i + 1 ∧ W.length ≤ 1 + 1000 * (i + 1)) [some v, some (.int n), some (.ref na), some (.int (0 + (i : Nat))), some vy] H5 := fun B5 H5 S5 e5 hb hk => nxt B5 H5 na xs' S5 e5 hb (by rw [hk, List.append_nil]; exact hxs'.up e5)
      have tup : ∀ Bx, Ex B2 Bx → ETt Fm.pure (tNot (tB (tCB (rIsi K) (tCons (tVar 4) (tCons (tC (.ty "tuple")) tNil))))) [some v, some (.int n), some (.ref na), some (.int (0 + (i : Nat))), some vy] Bx (!isTupD y) := fun Bx ex => et_not (et_val (ed_isi (ed_var rfl (hy.up ex)) (kit_tup _)))
      by_cases ht' : isTupD y = false
      · exact qs_when (b := true) S3 (et_is (et_or (b := !isTupD y) (c := true) (tup B2 (Ex.refl _)) fun h => by rw [ht'] at h; cases h) (by rw [ht']; rfl)) (fun _ B4 H4 S4 e4 => retF _ B4 H4 _ _ rfl S4 (bgK_not ht')) (fun h => nomatch h)
      have ht : isTupD y = true := by simpa using ht'
      obtain ⟨ds, rfl⟩ := isTup_is ht
      have emp : ∀ Bx, Ex B2 Bx → ETt Fm.pure (tTest (tOp (rEqD K) (tVar 4) (tTup tNil))) [some v, some (.int n), some (.ref na), some (.int (0 + (i : Nat))), some vy] Bx ds.isEmpty := fun Bx ex => et_is (et_cmp (ed_op (ed_var rfl (hy.up ex)) (ed_tup eds_nil) (rd_eqD (hsy.sh) rfl))) (eqvT_nl ds)
      rcases ds with _ | ⟨x, ps⟩
      · exact qs_when (b := true) S3 (et_or (b := false) (c := true) (tup B2 (Ex.refl _)) fun _ => et_or (b := true) (c := true) (emp B2 (Ex.refl _)) fun h => nomatch h) (fun _ B4 H4 S4 e4 => retF _ B4 H4 _ _ rfl S4 rfl) (fun h => nomatch h)
      have i0 : ∀ Bx, Ex B2 Bx → ED Fm.pure K (tOp (rIx K) (tVar 4) (tC (.int 0))) [some v, some (.int n), some (.ref na), some (.int (0 + (i : Nat))), some vy] Bx x := fun Bx ex => ed_op (ed_var rfl (hy.up ex)) ed_int (rd_ixT atc_0)
      refine qs_when (b := !isStrD x) S3 (et_is (et_or (b := false) (tup B2 (Ex.refl _)) fun _ => et_or (b := false) (emp B2 (Ex.refl _)) fun _ => et_not (et_val (ed_isi (i0 B2 (Ex.refl _)) (kit_str x)))) (by rfl)) (fun hb B4 H4 S4 e4 => retF _ B4 H4 _ _ rfl S4 (by cases x <;> first | rfl | cases hb)) (fun hb B4 H4 S4 e4 => ?_)
      obtain ⟨s0, rfl⟩ : ∃ s0, x = .str s0 := by
        cases x with
        | str s0 => exact ⟨s0, rfl⟩
        | _ => cases hb
      have hsh0 : SeqAt.shaped (.str s0) = true := (sm_hd hsy).sh
      have bt : bgK (.tuple (.str s0 :: ps)) n = (if (s0 == ("foot" : Str)) = true then decide (ps.length = 0) else if (s0 == ("word" : Str)) = true then decide (ps.length = 1) && wordD (ps.getD 0 .none)
          else if (s0 == ("plain" : Str)) = true then decide (ps.length = 1) && isTupD (ps.getD 0 .none) else if (s0 == ("graft" : Str)) = true then decide (ps.length = 2) && (inB (ps.getD 0 .none) 0 (n - 1) && isTupD (ps.getD 1 .none)) else false) := rfl
      have tS : ∀ Bx (s : Str), Ex B2 Bx → s.length ≤ sizeLine → SeqAt.shaped (.str s) = true → ETt Fm.pure (tTest (tOp (rEqD K) (tOp (rIx K) (tVar 4) (tC (.int 0))) (tC (.str s)))) [some v, some (.int n), some (.ref na), some (.int (0 + (i : Nat))), some vy] Bx (s0 == s) := fun Bx s ex hl hsh => et_is (et_cmp (ed_op (i0 Bx ex) (ed_str hl) (rd_eqD hsh0 hsh))) (eqv_str _ _)
      have ln : ∀ Bx, Ex B2 Bx → ED Fm.pure K (tCB (rLnK K) (tCons (tVar 4) tNil)) [some v, some (.int n), some (.ref na), some (.int (0 + (i : Nat))), some vy] Bx (.int (lenD (.tuple (.str s0 :: ps)))) := fun Bx ex => ev_cb (eds_cons (ed_var rfl (hy.up ex)) eds_nil) (rc_len rfl)
      refine ss_if (b := s0 == ("word" : Str)) S4 (tS B4 "word" e4 (by decide) (by decide +kernel)) (fun hw5 B5 H5 S5 e5 => ?_) (fun hw5 B5 H5 S5 e5 => ?_)
      · obtain rfl := beq_iff_eq.mp hw5
        have bt2 : bgK (.tuple (.str "word" :: ps)) n = (decide (ps.length = 1) && wordD (ps.getD 0 .none)) := by
          rw [bt, if_neg (by decide +kernel), if_pos (by decide +kernel)]
        refine ss_if (b := !bgK (.tuple (.str "word" :: ps)) n) S5 (et_is (et_or (b := !decide (ps.length = 1)) (c := !wordD (ps.getD 0 .none)) (et_is (et_cmp (ed_op (ln B5 (e4.trans e5)) ed_int (rd_neD rfl rfl))) (by rw [← len_ps (.str "word") ps 1]; rfl)) fun hl => ?_) (by rw [bt2]; cases decide (ps.length = 1) <;> cases wordD (ps.getD 0 .none) <;> rfl)) (fun hb6 B6 H6 S6 e6 => retF _ B6 H6 _ _ rfl S6 (by simpa using hb6)) (fun hb6 B6 H6 S6 e6 => stay B6 H6 S6 ((e4.trans e5).trans e6) (by simpa using hb6) (kids_short (by decide +kernel) (by decide +kernel)))
        obtain ⟨p, rfl⟩ := one_ps (by simpa using hl)
        exact et_not (et_val (ed_F (eds_cons (ed_op (ed_var rfl (hy.up (e4.trans e5))) ed_int (rd_ixT atc_1)) eds_nil) ⟨_, rfl, (hsy.memT (d := p) (by simp)).le (by decide)⟩ rfl))
      refine ss_if (b := s0 == ("foot" : Str)) S5 (tS B5 "foot" (e4.trans e5) (by decide) (by decide +kernel)) (fun hf6 B6 H6 S6 e6 => ?_) (fun hf6 B6 H6 S6 e6 => ?_)
      · obtain rfl := beq_iff_eq.mp hf6
        have bt2 : bgK (.tuple (.str "foot" :: ps)) n = decide (ps.length = 0) := by
          rw [bt, if_pos (by decide +kernel)]
        refine ss_if (b := !bgK (.tuple (.str "foot" :: ps)) n) S6 (et_is (et_cmp (ed_op (ln B6 ((e4.trans e5).trans e6)) ed_int (rd_neD rfl rfl))) (by rw [bt2, ← len_ps (.str "foot") ps 0]; rfl)) (fun hb7 B7 H7 S7 e7 => retF _ B7 H7 _ _ rfl S7 (by simpa using hb7)) (fun hb7 B7 H7 S7 e7 => stay B7 H7 S7 (((e4.trans e5).trans e6).trans e7) (by simpa using hb7) (kids_short (by decide +kernel) (by decide +kernel)))
      have e46 := (e4.trans e5).trans e6
      have bt3 : bgK (.tuple (.str s0 :: ps)) n = (if (s0 == ("plain" : Str)) = true then decide (ps.length = 1) && isTupD (ps.getD 0 .none) else if (s0 == ("graft" : Str)) = true then decide (ps.length = 2) && (inB (ps.getD 0 .none) 0 (n - 1) && isTupD (ps.getD 1 .none)) else false) := by
        rw [bt, hf6, hw5, if_neg (by decide), if_neg (by decide)]
      have lst : ∀ p, ∀ qs : List PyData, ∀ Bx, Ex B2 Bx → ps = qs ++ [p] → ED Fm.pure K (tOp (rIx K) (tVar 4) (tUn (rU fun i => .int (-i)) (tC (.int 1)))) [some v, some (.int n), some (.ref na), some (.int (0 + (i : Nat))), some vy] Bx p := fun p qs Bx ex hps => by
        subst hps
        exact ed_op (ed_var rfl (hy.up ex)) (ed_ng ed_int) (rd_ixT (by rw [← List.cons_append]; exact atI_last _ p))
      have nin : ∀ Bx, Ex B2 Bx → ETt Fm.pure (tTest (tOp (rIn K true) (tOp (rIx K) (tVar 4) (tC (.int 0))) (tLst (tCons (tC (.str "plain")) (tCons (tC (.str "graft")) tNil))))) [some v, some (.int n), some (.ref na), some (.int (0 + (i : Nat))), some vy] Bx (!inS s0 ["plain", "graft"]) := fun Bx ex => et_is (et_cmp (ed_op (i0 Bx ex) pg2 (rd_notin (.inl rfl) rfl (flatS _)))) (congrArg Bool.not (inD_str s0 _))
      have lenW : ∀ Bx, Ex B2 Bx → ETt Fm.pure (tTest (tOp (rNeD K) (tCB (rLnK K) (tCons (tVar 4) tNil)) (tOp (rAddA K) (tC (.int 2)) (tCB (fun xs H Q => (∃ i, xs = [.int i] ∧ Q (.int i) H) ∨ ∃ k, xs = [.bl k] ∧ Q (.int (if k then 1 else 0)) H) (tCons (tOp (rEqD K) (tOp (rIx K) (tVar 4) (tC (.int 0))) (tC (.str "graft"))) tNil))))) [some v, some (.int n), some (.ref na), some (.int (0 + (i : Nat))), some vy] Bx (!decide (ps.length = if (s0 == ("graft" : Str)) = true then 2 else 1)) := fun Bx ex => et_is (et_cmp (ed_op (ln Bx ex) (ed_op ed_int (ev_cb (eds_cons (ed_is (ed_op (i0 Bx ex) ed_str (rd_eqD hsh0 (by decide +kernel))) (congrArg PyData.bool (eqv_str _ _))) eds_nil) rc_intB) rd_add) (rd_neD rfl rfl))) (by
        cases s0 == ("graft" : Str)
        · show (!PyData.eqv _ (.int (2 + 0))) = _
          rw [if_neg (by decide), ← len_ps (.str s0) ps 1]
          rfl
        · show (!PyData.eqv _ (.int (2 + 1))) = _
          rw [if_pos rfl, ← len_ps (.str s0) ps 2]
          rfl)
      by_cases hpl : (s0 == ("plain" : Str)) = true
      · obtain rfl := beq_iff_eq.mp hpl
        have bt4 : bgK (.tuple (.str "plain" :: ps)) n = (decide (ps.length = 1) && isTupD (ps.getD 0 .none)) := by
          rw [bt3, if_pos (by decide +kernel)]
        refine ss_if (b := !bgK (.tuple (.str "plain" :: ps)) n) S6 (et_is (et_or (b := false) (et_is (nin B6 e46) (by decide +kernel)) fun _ => et_or (b := !decide (ps.length = 1)) (c := !isTupD (ps.getD 0 .none)) (et_is (lenW B6 e46) (by rw [if_neg (by decide +kernel)])) fun hl => ?_) (by rw [bt4]; cases decide (ps.length = 1) <;> cases isTupD (ps.getD 0 .none) <;> rfl)) (fun hb7 B7 H7 S7 e7 => retF _ B7 H7 _ _ rfl S7 (by simpa using hb7)) (fun hb7 B7 H7 S7 e7 => ?_)
        · obtain ⟨p, rfl⟩ := one_ps (by simpa using hl)
          exact et_not (et_val (ed_isi (lst p [] B6 e46 rfl) (kit_tup p)))
        · have hbg : bgK (.tuple (.str "plain" :: ps)) n = true := by simpa using hb7
          have hbg2 := hbg
          rw [bt4, Bool.and_eq_true] at hbg2
          obtain ⟨p, rfl⟩ := one_ps hbg2.1
          obtain ⟨ks, rfl⟩ := isTup_is (d := p) hbg2.2
          have e47 := e46.trans e7
          refine ss_if (b := false) S7 (et_and (b := false) (c := true) (et_is (tS B7 "graft" e47 (by decide) (by decide +kernel)) (by decide +kernel)) fun h => nomatch h) (fun h => nomatch h) (fun _ B8 H8 S8 e8 => ?_)
          have hkl := kids_wl hwy
          have hxl := hxs'.len
          rw [kids_plain] at hkl
          refine ss_add (K := K) (ds := ks) S8 rfl (ev_cb (eds_cons (lst (.tuple ks) [] B8 (e47.trans e8) rfl) eds_nil) rc_lstT) (by omega) fun na' us B9 H9 S9 e9 hus => ?_
          exact nxt B9 H9 na' _ S9 ((e47.trans e8).trans e9) hbg (by rw [kids_plain]; exact (hxs'.up ((e47.trans e8).trans e9)).app hus)
      have hpl' : (s0 == ("plain" : Str)) = false := by simpa using hpl
      by_cases hgr : (s0 == ("graft" : Str)) = true
      · obtain rfl := beq_iff_eq.mp hgr
        have bt4 : bgK (.tuple (.str "graft" :: ps)) n = (decide (ps.length = 2) && (inB (ps.getD 0 .none) 0 (n - 1) && isTupD (ps.getD 1 .none))) := by
          rw [bt3, if_neg (by decide +kernel), if_pos (by decide +kernel)]
        refine ss_if (b := !decide (ps.length = 2) || !isTupD (ps.getD 1 .none)) S6 (et_is (et_or (b := false) (et_is (nin B6 e46) (by decide +kernel)) fun _ => et_or (b := !decide (ps.length = 2)) (c := !isTupD (ps.getD 1 .none)) (et_is (lenW B6 e46) (by rw [if_pos (by decide +kernel)])) fun hl => ?_) (by rfl)) (fun hb7 B7 H7 S7 e7 => retF _ B7 H7 _ _ rfl S7 ?_) (fun hb7 B7 H7 S7 e7 => ?_)
        · obtain ⟨k, p, rfl⟩ := two_ps (by simpa using hl)
          exact et_not (et_val (ed_isi (lst p [k] B6 e46 rfl) (kit_tup p)))
        · rw [bt4]
          cases h1 : decide (ps.length = 2) <;> cases h2 : isTupD (ps.getD 1 .none) <;> rw [h1, h2] at hb7 <;> first | rfl | (rw [Bool.and_false]; rfl) | cases hb7
        · rw [Bool.or_eq_false_iff, Bool.not_eq_false', Bool.not_eq_false'] at hb7
          obtain ⟨k, p, rfl⟩ := two_ps hb7.1
          obtain ⟨ks, rfl⟩ := isTup_is (d := p) hb7.2
          have e47 := e46.trans e7
          have bt5 : bgK (.tuple [.str "graft", k, .tuple ks]) n = inB k 0 (n - 1) := by
            rw [bt4]
            show (true && (inB k 0 (n - 1) && true)) = _
            rw [Bool.true_and, Bool.and_true]
          refine ss_if (b := !inB k 0 (n - 1)) S7 (et_is (et_and (b := true) (c := !inB k 0 (n - 1)) (et_is (tS B7 "graft" e47 (by decide) (by decide +kernel)) (by decide +kernel)) fun _ => et_not (et_val (ed_F (z := .bool (inB k 0 (n - 1))) (eds_cons (ed_slT (ed_var rfl (hy.up e47)) (eo_some (K := K) (i := 1) ed_int) (eo_some (K := K) (i := 2) ed_int)) (eds_cons (ed_var rfl (.int n)) eds_nil)) ⟨_, n, rfl, ?_⟩ ?_))) (by rw [Bool.true_and])) (fun hb8 B8 H8 S8 e8 => retF _ B8 H8 _ _ rfl S8 (by rw [bt5]; simpa using hb8)) (fun hb8 B8 H8 S8 e8 => ?_)
          · exact sm_tup (n := 59) fun z hz => (hsy.memT (mem_cutL' hz)).le (by decide)
          · have ec : cutL [PyData.str "graft", k, .tuple ks] (some 1) (some 2) = [k] := by
              unfold cutL HT.sIx
              simp
            show PyData.bool (numsD (.tuple (cutL [PyData.str "graft", k, .tuple ks] (some 1) (some 2))) n) = _
            rw [ec, numsD_tup, List.all_cons, List.all_nil, Bool.and_true]
          · have hbg : bgK (.tuple [.str "graft", k, .tuple ks]) n = true := by rw [bt5]; simpa using hb8
            have hkl := kids_wl hwy
            have hxl := hxs'.len
            rw [kids_graft] at hkl
            refine ss_add (K := K) (ds := ks) S8 rfl (ev_cb (eds_cons (lst (.tuple ks) [k] B8 (e47.trans e8) rfl) eds_nil) rc_lstT) (by omega) fun na' us B9 H9 S9 e9 hus => ?_
            exact nxt B9 H9 na' _ S9 ((e47.trans e8).trans e9) hbg (by rw [kids_graft]; exact (hxs'.up ((e47.trans e8).trans e9)).app hus)
      · have hgr' : (s0 == ("graft" : Str)) = false := by simpa using hgr
        refine ss_if (b := true) S6 (et_or (b := true) (c := true) (et_is (nin B6 e46) (by rw [in2, hpl', hgr']; rfl)) fun h => nomatch h) (fun _ B7 H7 S7 e7 => retF _ B7 H7 _ _ rfl S7 (by rw [bt3, hpl', hgr']; rfl)) (fun h => nomatch h)
    · rintro σ' H' ⟨o1, o2, na, B', xs, vis, W, rfl, S, hxs, hW, hvis, hsW, hvl, hWl⟩
      refine fin false B' H' S.st ?_
      have h1 := hW.length_eq
      rw [List.length_append] at h1
      rw [decide_eq_false (by omega), Bool.and_false]

end
end K20

namespace K20
open PySem PySem.Spec PyProof.Rows L2 Evl Ex Dx
open PySem.PyData (strOk)

section
variable {P : Program} {w : World} {K : PySem.W.Frag} {mg : Str → Option Value} {base : Heap} {f : Addr} {fd : FuncData}

abbrev s_law_is_a_tree : Stmt := topS 49
abbrev N_law_is_a_tree : List Str := ["value", "kinds", "one"]
theorem sc_law_is_a_tree : FnScope N_law_is_a_tree ["value", "kinds"] (defScope s_law_is_a_tree) := ⟨rfl, rfl, rfl, by decide +kernel, rfl, by decide +kernel, by decide +kernel⟩
def preIT (ds : List PyData) : Prop := ∃ d n, ds = [d, .int n] ∧ Sm 20 d ∧ Wi d
theorem ok_law_is_a_tree (F : Fun K "_law_is_a_tree" "_law_is_a_tree" s_law_is_a_tree f fd) (T : TC K mg) (C_law_is_numbers : Callee P w K mg base "_law_is_numbers" 2 ["value", "many"] (spF K (fun ds => ∃ d n, ds = [d, .int n] ∧ Sm 60 d) fNums)) (C_law_are_knots : Callee P w K mg base "_law_are_knots" 3 ["value", "kinds"] (spF K (fun ds => ∃ d n, ds = [d, .int n] ∧ Sm 50 d ∧ Wi d) fKs))
    (C_law_is_good_tree : Callee P w K mg base "_law_is_good_tree" 21 ["tree"] (spF K preGood fGood)) (C_law_knots : Callee P w K mg base "_law_knots" 20 ["knot"] (spF K (preLK 19) fAll)) : FnOk P w K mg base CX0 22 f fd ["value", "kinds"] (spF K preIT fTree) := by
  refine F.ok sc_law_is_a_tree (fun vs H Q E h => ?_) (fun cdv A outer s H vs Q E hr h => ?_)
  · obtain ⟨B, ds, e, hd, ⟨d, n, rfl, _⟩, q⟩ := h
    exact hd.len
  · obtain ⟨B, ds, e, hd, ⟨d, n, rfl, hs, hw⟩, q⟩ := h
    obtain ⟨v, v2, rfl, hv, hn⟩ := arg2 hd
    obtain rfl := dd_int hn
    have hu64 : (A.deeper (envOfC "_law_is_a_tree" (defScope s_law_is_a_tree) s.heap.objs.size f cdv)).units + 64 < cLine := hr.units
    refine ⟨_, (pss_cons (ps_if (PW.pt (pw_or (pt_not (pt_val (pe_callB (call_isiK1 K) (by rfl) T.m_isinstance bt_isinstance (pa_cons (pv 0) (pa_cons (pe_bltn (v := .ty "tuple") (by rfl) T.m_tuple bt_tuple rfl) pa_nil))))) (pw_or (pt_cmpR (op_neDK K hu64) (pe_callB (call_lenK K) (by rfl) T.m_len bt_len (pa_cons (pv 0) pa_nil)) pe_int (nomark _)) (pw_or (pt_not (pt_val (pe_callC C_law_is_numbers (hr.mono (by decide)) rfl pass0 (pa_cons (pe_slice (sl_anyK K) (pv 0) po_none (po_some pe_int)) (pa_cons (pv 1) pa_nil))))) (pw_or1 (pt_not (pt_val (pe_callC C_law_are_knots (hr.mono (by decide)) rfl pass0 (pa_cons (pe_ix (ix_seqK K) (pv 0) pe_int (fun _ _ => rfl)) (pa_cons (pv 1) pa_nil)))))))))) (pss_one (ps_ret pe_bl)) pss_nil)
      (pss_one (ps_ret (pe_and (pe_callC C_law_is_good_tree (hr.mono (by decide)) rfl pass0 (pa_cons (pv 0) pa_nil)) (pe_one (pe_cmpR (op_eqDK K hu64) (pe_callB (call_lenK K) (by rfl) T.m_len bt_len (pa_cons (pe_lc (own := [("one", 2)]) rfl sc_law_is_a_tree.nd (pi_seqK K (pe_callC C_law_knots (hr.mono (by decide)) rfl pass0 (pa_cons (pe_ix (ix_seqK K) (pv 0) pe_int (fun _ _ => rfl)) pa_nil))) (blkOk_by (own := [("one", 2)]) (N := N_law_is_a_tree) (sc := defScope s_law_is_a_tree) (by decide +kernel)) (fun _ _ _ _ _ => pg_name (i := 2) sc_law_is_a_tree.nd rfl (Or.inl rfl)) (fun _ _ _ _ _ => (pts_one (pt_cmpR (op_eqDK K hu64) (pe_ix (ix_seqK K) (pv 2) pe_int (fun _ _ => rfl)) pe_str (nomark _)))) (fun _ _ _ _ _ => (pv 2))) pa_nil)) pe_int (nomark _))))))), ?_⟩
    have a : At Fm.pure B H B H := At.start (Ok.any e)
    have fin : ∀ b B1 H1, At Fm.pure B H B1 H1 → b = treeD d n → Q (.bl b) H1 := fun b B1 H1 a1 eb => by
      refine q _ B1 H1 a1.st ?_
      show Dd K B1 (.bl b) (.bool (treeD d n))
      rw [eb]
      exact .bl _
    have bad : ∀ (D : Ends) B1 H1, Ex B B1 → At Fm.pure B H B1 H1 → D.rt = Q → treeD d n = false → tRet (tC (.bl false)) D [some v, some (.int n), none] H1 := fun D B1 H1 e1 a1 hD hb => by
      refine sv_ret (P := DD K (.bool false)) a1 ed_bl fun v1 B2 H2 e2 a2 h2 => ?_
      obtain rfl := dd_bl h2
      rw [hD]
      exact fin _ B2 H2 a2 hb.symm
    rcases two_is d with ⟨k, x, rfl⟩ | ht | ⟨ds, rfl, hl⟩
    · have hsx : Sm 19 x := hs.memT (by simp)
      have hwx : Wi x := hw.mem (by simp)
      have hex := hsx.le (show 19 ≤ 60 by decide)
      have sl := ed_slT (F := Fm.pure) (K := K) (σ := [some v, some (.int n), none]) (ed_var (i := 0) rfl hv) eo_none (eo_some (K := K) (i := 1) ed_int)
      have ec : cutL [k, x] none (some 1) = [k] := by
        unfold cutL HT.sIx
        simp
      rw [ec] at sl
      refine qv_when (b := !(inB k 0 (n - 1) && (okN x n && decide ((ND x).length < 60)))) a (et_is (et_or (b := false) (et_not (et_val (ed_isi (ed_var rfl hv) (kit_tup _)))) fun _ => et_or (b := false) (et_is (et_cmp (ed_op (ev_cb (eds_cons (ed_var rfl hv) eds_nil) (rc_len (x := .tuple [k, x]) rfl)) ed_int (rd_neD rfl rfl))) (by rw [eqv_int]; rfl)) fun _ =>
        et_or (b := !inB k 0 (n - 1)) (c := !(okN x n && decide ((ND x).length < 60))) (et_not (et_val (ed_F (z := .bool (inB k 0 (n - 1))) (eds_cons sl (eds_cons (ed_var rfl (.int n)) eds_nil)) ⟨_, n, rfl, sm_tup (n := 59) fun z hz => by rw [List.mem_singleton.mp hz]; exact (hs.memT (d := k) (by simp)).le (by decide)⟩ (by show PyData.bool (numsD (.tuple [k]) n) = _; rw [numsD_tup, List.all_cons, List.all_nil, Bool.and_true])))) fun _ =>
          et_not (et_val (ed_F (eds_cons (ed_op (ed_var rfl hv) ed_int (rd_ixT atc_1)) (eds_cons (ed_var rfl (.int n)) eds_nil)) ⟨x, n, rfl, hsx.le (by decide), hwx⟩ rfl))) (by cases inB k 0 (n - 1) <;> rfl)) (fun hb B1 H1 e1 a1 => ?_) (fun hb B1 H1 e1 a1 => ?_)
      · refine bad _ B1 H1 e1 a1 rfl ?_
        show (inB k 0 (n - 1) && (okN x n && (goodL (ND x) && decide (cnt "foot" (ND x) = 1)))) = false
        rw [Bool.not_eq_true', Bool.and_eq_false_iff, Bool.and_eq_false_iff] at hb
        rcases hb with hb | hb | hb
        · rw [hb]
          rfl
        · rw [hb, Bool.false_and, Bool.and_false]
        · have h60 := of_decide_eq_false hb
          have : goodL (ND x) = false := by
            unfold goodL
            rw [decide_eq_false (by omega), Bool.false_and]
          rw [this, Bool.false_and, Bool.and_false, Bool.and_false]
      · rw [Bool.not_eq_false', Bool.and_eq_true, Bool.and_eq_true, decide_eq_true_eq] at hb
        obtain ⟨hk, hok, h60⟩ := hb
        have td : treeD (.tuple [k, x]) n = (goodL (ND x) && decide (cnt "foot" (ND x) = 1)) := by
          show (inB k 0 (n - 1) && (okN x n && (goodL (ND x) && decide (cnt "foot" (ND x) = 1)))) = _
          rw [hk, hok, Bool.true_and, Bool.true_and]
        have ek : ED Fm.pure K (tCall (spF K (preLK 19) fAll) [] E0 (tCons (tOp (rIx K) (tVar 0) (tC (.int 1))) tNil)) (wipe [some v, some (.int n), none] [2]) B1 (.list (ND x)) := ed_F (eds_cons (ed_op (ed_var rfl (hv.up e1)) ed_int (rd_ixT atc_1)) eds_nil) ⟨x, n, rfl, hok, hsx.2, hex, hwx, by omega⟩ rfl
        refine sv_ret (P := DD K (.bool (treeD (.tuple [k, x]) n))) a1 (ed_is (ed_andV (b := goodL (ND x)) (c := decide (cnt "foot" (ND x) = 1)) (ed_F (eds_cons (ed_var rfl (hv.up e1)) eds_nil) ⟨k, x, n, rfl, hok, hsx, hwx, by omega⟩ rfl) fun _ => ed_is (ed_op (ev_cb (eds_cons (ed_lcD (fun y => isS (hdD y) "foot") (fun y => y) (ev_seqL ek) (by omega) (fun _ => rfl) (fun y u B3 hm _ hu => et_hd rfl hu (okN_mem hok hm) (by decide) (by decide +kernel)) (fun y u B3 hm hp _ hu => ed_var rfl hu)) eds_nil) (rc_len rfl)) ed_int (rd_eqD rfl rfl)) (congrArg PyData.bool ?_)) (by rw [td])) fun v1 B3 H3 e3 a3 h3 => ?_
        · exact (filt_one (n := 1)).trans (by rw [cnt_filter])
        · obtain rfl := dd_bl h3
          exact fin _ B3 H3 a3 rfl
    · refine qv_when (b := true) a (et_is (et_or (b := !isTupD d) (c := true) (et_not (et_val (ed_isi (ed_var rfl hv) (kit_tup _)))) fun h => by rw [ht] at h; cases h) (by rw [ht]; rfl)) (fun hb B1 H1 e1 a1 => bad _ B1 H1 e1 a1 rfl (treeD_not ht)) (fun h => nomatch h)
    · refine qv_when (b := true) a (et_is (et_or (b := false) (c := true) (et_not (et_val (ed_isi (ed_var rfl hv) (kit_tup _)))) fun _ => et_is (et_or (b := true) (c := true) (et_is (et_cmp (ed_op (ev_cb (eds_cons (ed_var rfl hv) eds_nil) (rc_len (x := .tuple ds) rfl)) ed_int (rd_neD rfl rfl))) (by rw [eqv_int]; show (!(((ds.length : Nat) : Int) == 2)) = true; rw [beq_eq_false_iff_ne.mpr (by omega)]; rfl)) fun h => nomatch h) rfl) rfl) (fun hb B1 H1 e1 a1 => bad _ B1 H1 e1 a1 rfl (treeD_len hl)) (fun h => nomatch h)

abbrev s_law_due : Stmt := topS 50
abbrev N_law_due : List Str := ["kinds", "trees", "back", "tree"]
theorem sc_law_due : FnScope N_law_due ["kinds", "trees"] (defScope s_law_due) := ⟨rfl, rfl, rfl, by decide +kernel, rfl, by decide +kernel, by decide +kernel⟩
def fDueT : List PyData → PyData
  | [k, r] => dueT k r
  | _ => .none
theorem dueT_num {k r : PyData} (h : (!isI k || (decide ((match k with | .int i => i | _ => 0) < 1) || decide (8 < (match k with | .int i => i | _ => 0)))) = true) : dueT k r = .tuple [.str "number", k] := by
  cases k with
  | int n =>
    have h' : n < 1 ∨ 8 < n := by simpa [isI] using h
    unfold dueT
    simp only
    rw [if_neg (by omega)]
  | _ => rfl
theorem dueT_trees {n : Int} {r : PyData} (h0 : 1 ≤ n ∧ n ≤ 8) (h : treesD r n = false) : dueT (.int n) r = .tuple [.str "trees", r] := by
  unfold dueT
  simp only
  rw [if_pos h0, h, if_neg (by decide)]
theorem dueT_back {n : Int} {rs : List PyData} (h0 : 1 ≤ n ∧ n ≤ 8) (h : treesD (.tuple rs) n = true) : dueT (.int n) (.tuple rs) = (match backK (edgesT rs) n.toNat with | none => .tuple [.str "kept", .int n, .tuple rs] | some b => .tuple [.str "endless", .int b]) := by
  unfold dueT
  simp only
  rw [if_pos h0, if_pos h]
  first
    | done
    | cases backK (edgesT rs) n.toNat <;> rfl
theorem trees_all {rs : List PyData} {n : Int} (h : treesD (.tuple rs) n = true) : 1 ≤ rs.length ∧ rs.length ≤ 9 ∧ ∀ r ∈ rs, treeD r n = true := by
  rw [treesD_tup, Bool.and_eq_true, Bool.and_eq_true, decide_eq_true_eq, decide_eq_true_eq, List.all_eq_true] at h
  exact ⟨by omega, by omega, h.2⟩
def preDue (ds : List PyData) : Prop := ∃ k r, ds = [k, r] ∧ Sm 20 r ∧ Wi r
theorem ok_law_due (F : Fun K "_law_due" "_law_due" s_law_due f fd) (T : TC K mg) (C_law_whole : Callee P w K mg base "_law_whole" 1 ["value"] (spInt K)) (C_law_is_a_tree : Callee P w K mg base "_law_is_a_tree" 22 ["value", "kinds"] (spF K preIT fTree))
    (C_law_tree_steps : Callee P w K mg base "_law_tree_steps" 21 ["trees"] (spF K preTs fTs)) (C_law_back_kind : Callee P w K mg base "_law_back_kind" 1 ["steps", "kinds"] (spF K preBack fBack)) : FnOk P w K mg base CX0 23 f fd ["kinds", "trees"] (spF K preDue fDueT) := by
  refine F.ok sc_law_due (fun vs H Q E h => ?_) (fun cdv A outer s H vs Q E hr h => ?_)
  · obtain ⟨B, ds, e, hd, ⟨k, r, rfl, _⟩, q⟩ := h
    exact hd.len
  · obtain ⟨B, ds, e, hd, ⟨k, r, rfl, hs, hw⟩, q⟩ := h
    obtain ⟨v, v2, rfl, hk, hrr⟩ := arg2 hd
    have hu64 : (A.deeper (envOfC "_law_due" (defScope s_law_due) s.heap.objs.size f cdv)).units + 64 < cLine := hr.units
    refine ⟨_, (pss_cons (ps_if (PW.pt (pw_or (pt_not (pt_val (pe_callC C_law_whole (hr.mono (by decide)) rfl pass0 (pa_cons (pv 0) pa_nil)))) (pw_or (pt_cmpR op_lt (pv 0) pe_int (nomark _)) (pw_or1 (pt_cmpR op_gt (pv 0) pe_int (nomark _)))))) (pss_one (ps_ret (pe_tup (pa_cons pe_str (pa_cons (pv 0) pa_nil))))) pss_nil)
      (pss_cons (ps_if (PW.pt (pw_or (pt_not (pt_val (pe_callB (call_isiK1 K) (by rfl) T.m_isinstance bt_isinstance (pa_cons (pv 1) (pa_cons (pe_bltn (v := .ty "tuple") (by rfl) T.m_tuple bt_tuple rfl) pa_nil))))) (pw_or (pt_cmpR op_lt (pe_callB (call_lenK K) (by rfl) T.m_len bt_len (pa_cons (pv 1) pa_nil)) pe_int (nomark _)) (pw_or (pt_cmpR op_gt (pe_callB (call_lenK K) (by rfl) T.m_len bt_len (pa_cons (pv 1) pa_nil)) pe_int (nomark _)) (pw_or1 (pt_cmpR (op_neDK K hu64) (pe_lc (own := [("tree", 3)]) rfl sc_law_due.nd (pi_seqK K (pv 1)) (blkOk_by (own := [("tree", 3)]) (N := N_law_due) (sc := defScope s_law_due) (by decide +kernel)) (fun _ _ _ _ _ => pg_name (i := 3) sc_law_due.nd rfl (Or.inl rfl)) (fun _ _ _ _ _ => (pts_one (pt_not (pt_val (pe_callC C_law_is_a_tree (hr.mono (by decide)) rfl pass0 (pa_cons (pv 3) (pa_cons (pv 0) pa_nil))))))) (fun _ _ _ _ _ => (pv 3))) (pe_lst pa_nil) (nomark _))))))) (pss_one (ps_ret (pe_tup (pa_cons pe_str (pa_cons (pv 1) pa_nil))))) pss_nil)
      (pss_cons (ps_set (i := 2) sc_law_due.nd rfl (Or.inl rfl) (pe_callC C_law_back_kind (hr.mono (by decide)) rfl pass0 (pa_cons (pe_callC C_law_tree_steps (hr.mono (by decide)) rfl pass0 (pa_cons (pv 1) pa_nil)) (pa_cons (pv 0) pa_nil))))
      (pss_one (ps_ret (pe_ifExp (pt_cmpR op_isN (pv 2) pe_non (nomark _)) (pe_tup (pa_cons pe_str (pa_cons (pv 0) (pa_cons (pv 1) pa_nil)))) (pe_tup (pa_cons pe_str (pa_cons (pv 2) pa_nil))))))))), ?_⟩
    have a : At Fm.pure B H B H := At.start (Ok.any e)

    have q' : ∀ v B' H', At Fm.pure B H B' H' → Dd K B' v (dueT k r) → Q v H' := fun v B' H' a' h' => q v B' H' a'.st h'
    refine qv_when a (et_or (et_not (et_val (ed_F (eds_cons (ed_var rfl hk) eds_nil) ⟨_, rfl⟩ rfl))) fun hi => et_or (b := decide ((match k with | .int i => i | _ => 0) < 1)) (c := decide (8 < (match k with | .int i => i | _ => 0))) ?_ fun _ => ?_) (fun hb B1 H1 e1 a1 => ?_) (fun hb B1 H1 e1 a1 => ?_)
    · obtain ⟨n, rfl⟩ := isI_is (d := k) (by simpa using hi)
      exact et_cmp (ed_op (ed_var rfl hk) ed_int rd_lt)
    · obtain ⟨n, rfl⟩ := isI_is (d := k) (by simpa using hi)
      exact et_cmp (ed_op (ed_var rfl hk) ed_int rd_gt)
    · refine sv_ret (P := DD K (.tuple [.str "number", k])) a1 (ed_tup (eds_cons ed_str (eds_cons (ed_var rfl (hk.up e1)) eds_nil))) fun v1 B2 H2 e2 a2 h2 => q' _ B2 H2 a2 ?_
      rw [dueT_num hb]
      exact h2
    have hk1 : ∃ n : Int, k = .int n ∧ 1 ≤ n ∧ n ≤ 8 := by
      rw [Bool.or_eq_false_iff, Bool.or_eq_false_iff] at hb
      obtain ⟨b1, b2, b3⟩ := hb
      obtain ⟨n, rfl⟩ := isI_is (d := k) (by simpa using b1)
      have b2' : ¬ n < 1 := of_decide_eq_false b2
      have b3' : ¬ 8 < n := of_decide_eq_false b3
      exact ⟨n, rfl, by omega, by omega⟩
    obtain ⟨n, rfl, n1, n2⟩ := hk1
    obtain rfl := dd_int hk
    have hbad : ∀ (D : Ends) B2 H2, Ex B1 B2 → At Fm.pure B H B2 H2 → D.rt = Q → treesD r n = false → tRet (tTup (tCons (tC (.str "trees")) (tCons (tVar 1) tNil))) D [some (.int n), some v2, none, none] H2 := fun D B2 H2 e2 a2 hD hr0 => by
      refine sv_ret (P := DD K (.tuple [.str "trees", r])) a2 (ed_tup (eds_cons ed_str (eds_cons (ed_var rfl (hrr.up (e1.trans e2))) eds_nil))) fun v1 B3 H3 e3 a3 h3 => ?_
      rw [hD]
      refine q' _ B3 H3 a3 ?_
      rw [dueT_trees ⟨n1, n2⟩ hr0]
      exact h3
    by_cases ht : isTupD r = true
    · obtain ⟨rs, rfl⟩ := tup_is ht
      have ln : ED Fm.pure K (tCB (rLnK K) (tCons (tVar 1) tNil)) [some (.int n), some v2, none, none] B1 (.int (rs.length : Nat)) := ev_cb (eds_cons (ed_var rfl (hrr.up e1)) eds_nil) (rc_len (x := .tuple rs) rfl)
      refine qv_when (b := !treesD (.tuple rs) n) a1 (et_is (et_or (b := false) (et_not (et_val (ed_isi (ed_var rfl (hrr.up e1)) (kit_tup _)))) fun _ => et_or (b := decide (((rs.length : Nat) : Int) < 1)) (et_cmp (ed_op ln ed_int rd_lt)) fun _ => et_or (b := decide ((9 : Int) < (rs.length : Nat))) (c := !rs.all fun r => treeD r n) (et_cmp (ed_op ln ed_int rd_gt)) fun h90 => ?_) ?_) (fun hb2 B2 H2 e2 a2 => hbad _ B2 H2 e2 a2 rfl (by simpa using hb2)) (fun hb2 B2 H2 e2 a2 => ?_)
      · have h90' : ¬ (9 : Int) < (rs.length : Nat) := of_decide_eq_false h90
        refine et_is (et_cmp (ed_op (ed_lcD (fun d => !treeD d n) (fun d => d) (ev_seqT (ed_var rfl (hrr.up e1))) (by omega) (fun _ => rfl) (fun d u B2 hm _ hd2 => et_not (et_val (ed_F (eds_cons (ed_var rfl hd2) (eds_cons (ed_var rfl (.int n)) eds_nil)) ⟨_, _, rfl, (hs.memT hm).le (by decide), hw.mem hm⟩ rfl))) (fun d u B2 _ _ _ hd2 => ed_var rfl hd2)) (ed_lst eds_nil) (rd_neD (Sm.sh (sm_filter (n := 19) fun d hd => hs.memT hd)) rfl))) ?_
        rw [eqv_nil, List.map_id', filter_emp]
        simp only [Bool.not_not]
      · rw [treesD_tup]
        show (false || _) = _
        cases (rs.all fun r => treeD r n)
        · simp
        · rw [Bool.eq_iff_iff]
          simp only [Bool.false_or, Bool.not_true, Bool.or_false, Bool.or_eq_true, decide_eq_true_eq, Bool.and_true, Bool.not_eq_true', Bool.and_eq_false_iff, decide_eq_false_iff_not]
          omega
      · have hok : treesD (.tuple rs) n = true := by simpa using hb2
        obtain ⟨l1, l2, hall⟩ := trees_all hok
        have hE : (edgesT rs).length ≤ 100 := by
          have := edgesT_len rs
          omega
        have en : ((n.toNat : Nat) : Int) = n := by omega
        refine qv_asg (P := DD K (optD (backK (edgesT rs) n.toNat))) a2 (ed_F (eds_cons (ed_F (z := .list ((edgesT rs).map toD)) (eds_cons (ed_var rfl (hrr.up (e1.trans e2))) eds_nil) ⟨_, rs, n, rfl, .inr rfl, by omega, fun t ht => ⟨hall t ht, (hs.memT ht).le (by decide), hw.mem ht⟩⟩ rfl) (eds_cons (ed_var rfl (.int n)) eds_nil)) ⟨edgesT rs, n.toNat, by rw [en], hE, by omega⟩ (by show optD (backK (((edgesT rs).map toD).map ofD) n.toNat) = _; rw [ofD_toD])) fun vb B3 H3 e3 a3 h3 => ?_
        refine sv_ret (P := DD K (dueT (.int n) (.tuple rs))) a3 (ev_if (et_cmp (ed_op (ed_var rfl h3) ed_non rd_isN)) (fun hb => ed_is (ed_tup (eds_cons ed_str (eds_cons (ed_var rfl (.int n)) (eds_cons (ed_var rfl (hrr.up ((e1.trans e2).trans e3))) eds_nil)))) ?_) (fun hb => ed_is (ed_tup (eds_cons ed_str (eds_cons (ed_var rfl h3) eds_nil))) ?_)) fun v1 B4 H4 e4 a4 h4 => q' _ B4 H4 a4 h4
        · rw [dueT_back ⟨n1, n2⟩ hok]
          cases hh : backK (edgesT rs) n.toNat with
          | none => rfl
          | some b => rw [hh] at hb; cases hb
        · rw [dueT_back ⟨n1, n2⟩ hok]
          cases hh : backK (edgesT rs) n.toNat with
          | none => rw [hh] at hb; cases hb
          | some b => rfl
    · have ht' : isTupD r = false := by simpa using ht
      have hr0 : treesD r n = false := by cases r <;> first | rfl | cases ht'
      exact qv_when (b := true) a1 (et_is (et_or (b := !isTupD r) (c := true) (et_not (et_val (ed_isi (ed_var rfl (hrr.up e1)) (kit_tup _)))) fun h => by rw [ht'] at h; cases h) (by rw [ht']; rfl)) (fun hb2 B2 H2 e2 a2 => hbad _ B2 H2 e2 a2 rfl hr0) (fun h => nomatch h)

end
end K20

namespace K20
open PySem PySem.Spec PyProof.Rows L2 Evl Ex Dx
open PySem.PyData (strOk)

section
variable {P : Program} {w : World} {K : PySem.W.Frag} {mg : Str → Option Value} {base : Heap} {f : Addr} {fd : FuncData}

/-! ### what is new in a heap, alone -/
def rst (B H H' : Hp) : Hp := fun a => if ((H a).isSome && (B a).isNone) = true then none else H' a
theorem rst_old {B H H' : Hp} {a : Addr} {o : HO} (e : Ex B H) (e' : Ex H H') (h : B a = some o) : rst B H H' a = some o := by
  unfold rst
  rw [h, if_neg (by simp)]
  exact e' _ _ (e _ _ h)
theorem rst_new {B H H' : Hp} {a : Addr} (h : H a = none) : rst B H H' a = H' a := by
  unfold rst
  rw [h, if_neg (by simp)]
theorem rst_sub {B H H' : Hp} {a : Addr} {o : HO} (h : rst B H H' a = some o) : H' a = some o := by
  unfold rst at h
  split at h
  · cases h
  · exact h
theorem rst_step {B H H' : Hp} (e : Ex B H) (e' : Ex H H') : Step (fun _ => False) B H (rst B H H') H' :=
  ⟨fun a o h => rst_old e e' h, fun a o h => rst_sub h, fun a o _ h => e' _ _ h, fun a h n => by
    unfold rst
    rw [h, if_pos]
    cases hh : H a with
    | none => exact absurd hh n
    | some o => rfl, fun a n => by
    cases hh : H a with
    | none => exact absurd hh n
    | some o =>
      rw [e' _ _ hh]
      exact fun z => nomatch z⟩
theorem ddAll_int {H : Hp} : ∀ S : List Int, DdAll K H (S.map V.int) (S.map .int)
  | [] => .nil
  | i :: S => .cons (.int i) (ddAll_int S)
theorem dd_ints {H : Hp} {a : Addr} {S : List Int} (h : H a = some (.lst (S.map V.int))) (hl : S.length ≤ 16777216) : Dd K H (.ref a) (.list (S.map .int)) := .lst h (by rw [List.length_map, sizeLine_eq]; exact hl) (ddAll_int S)
theorem ints_dd {H : Hp} : ∀ {S : List Int} {vs : List V}, DdAll K H vs (S.map .int) → vs = S.map V.int
  | [], _, h => by cases h; rfl
  | i :: S, _, h => by
    cases h with
    | cons a t =>
      rw [dd_int a, ints_dd t]
      rfl
theorem ddAll_of {H : Hp} : ∀ {vs : List V} {ds : List PyData}, vs.length = ds.length → (∀ (i : Nat) (v : V) (d : PyData), vs[i]? = some v → ds[i]? = some d → Dd K H v d) → DdAll K H vs ds
  | [], [], _, _ => .nil
  | [], _ :: _, h, _ => by simp at h
  | _ :: _, [], h, _ => by simp at h
  | v :: vs, d :: ds, h, g => .cons (g 0 v d rfl rfl) (ddAll_of (by simpa using h) fun i v d h1 h2 => g (i + 1) v d (by simpa using h1) (by simpa using h2))
def adj (E : List (Int × Int)) (k : Int) : List Int := (E.filter fun p => p.1 == k).map (·.2)
theorem mem_adj {E : List (Int × Int)} {k x : Int} : x ∈ adj E k ↔ (k, x) ∈ E := by
  unfold adj
  rw [List.mem_map]
  constructor
  · rintro ⟨⟨a, b⟩, h, rfl⟩
    obtain ⟨h1, h2⟩ := List.mem_filter.mp h
    rw [beq_iff_eq] at h2
    exact h2 ▸ h1
  · intro h
    exact ⟨(k, x), List.mem_filter.mpr ⟨h, beq_self_eq_true k⟩, rfl⟩
theorem adj_len (E : List (Int × Int)) (k : Int) : (adj E k).length ≤ E.length := by
  unfold adj
  rw [List.length_map]
  exact List.length_filter_le _ _
theorem adj_snoc (E : List (Int × Int)) (a c k : Int) : adj (E ++ [(a, c)]) k = adj E k ++ (if a = k then [c] else []) := by
  unfold adj
  rw [List.filter_append, List.map_append]
  congr 1
  by_cases h : a = k
  · rw [if_pos h, List.filter_cons, if_pos (beq_iff_eq.mpr h)]
    rfl
  · rw [if_neg h, List.filter_cons, if_neg (fun z => h (beq_iff_eq.mp z))]
    rfl
def adjD (E : List (Int × Int)) (n : Nat) : PyData := .list ((List.range n).map fun k => .list ((adj E (k : Nat)).map .int))
/-! ### steps_of -/
structure Rep (H0 H : Hp) (Dl : Addr) (refs : List Addr) (c : Nat → List Int) : Prop where
  ex : Ex H0 H
  fD : H0 Dl = none
  hD : H Dl = some (.lst (refs.map V.ref))
  nd : refs.Nodup
  it : ∀ i r, refs[i]? = some r → H0 r = none ∧ r ≠ Dl ∧ H r = some (.lst ((c i).map V.int))
theorem Rep.mono {H0 H H' : Hp} {Dl : Addr} {refs : List Addr} {c : Nat → List Int} (R : Rep H0 H Dl refs c) (e : Ex H H') : Rep H0 H' Dl refs c := ⟨R.ex.trans e, R.fD, e _ _ R.hD, R.nd, fun i r h => ⟨(R.it i r h).1, (R.it i r h).2.1, e _ _ (R.it i r h).2.2⟩⟩
theorem Rep.data {B H0 H : Hp} {Dl : Addr} {refs : List Addr} {c : Nat → List Int} {n : Nat} (R : Rep H0 H Dl refs c) (e : Ex B H0) (hn : refs.length = n) (h1 : n ≤ 16777216) (h2 : ∀ i, i < n → (c i).length ≤ 16777216) : Dd K (rst B H0 H) (.ref Dl) (.list ((List.range n).map fun k => .list ((c k).map .int))) := by
  refine .lst ((rst_new R.fD).trans R.hD) (by rw [List.length_map, sizeLine_eq, hn]; exact h1) (ddAll_of (by rw [List.length_map, List.length_map, List.length_range, hn]) fun i v d hv hd => ?_)
  obtain ⟨r, hr, rfl⟩ : ∃ r, refs[i]? = some r ∧ V.ref r = v := by
    rw [List.getElem?_map] at hv
    cases hh : refs[i]? with
    | none => rw [hh] at hv; cases hv
    | some r => rw [hh] at hv; exact ⟨r, rfl, by simpa using hv⟩
  have hi : i < n := by
    rw [← hn]
    exact (List.getElem?_eq_some_iff.mp hr).1
  obtain ⟨f1, _, g1⟩ := R.it i r hr
  rw [List.getElem?_map, List.getElem?_range hi] at hd
  obtain rfl : PyData.list ((c i).map .int) = d := by simpa using hd
  exact dd_ints ((rst_new f1).trans g1) (h2 i hi)
theorem okH {H : Hp} : Ok Fm.pure H H := Ok.any (Ex.refl H)



def fSteps : List PyData → PyData
  | [.int n, .tuple rs] => adjD (edgesT rs) n.toNat
  | _ => .none
def preS (ds : List PyData) : Prop := ∃ (rs : List PyData) (n : Nat), ds = [.int (n : Nat), .tuple rs] ∧ rs.length ≤ 100 ∧ n ≤ 40 ∧ ∀ r ∈ rs, TrOk n r

abbrev s_steps_of_trees : Stmt := topS 28
abbrev N_steps_of_trees : List Str := ["kinds", "trees", "steps", "kind", "knot", "grafts", "_"]
theorem sc_steps_of_trees : FnScope N_steps_of_trees ["kinds", "trees"] (defScope s_steps_of_trees) := ⟨rfl, rfl, rfl, by decide +kernel, rfl, by decide +kernel, by decide +kernel⟩
theorem gks_one {x y : PyData} (h : grafts x = [y]) : gksD x = [gkD y] := by
  unfold gksD
  rw [h]
  rfl
set_option maxHeartbeats 8000000 in
theorem ok_steps_of_trees (F : Fun K "steps_of_trees" "steps_of_trees" s_steps_of_trees f fd) (T : TC K mg) (C_graft_kinds : Callee P w K mg base "graft_kinds" 3 ["knot"] (spF K preA fGk)) (C_many_words : Callee P w K mg base "many_words" 3 ["knot"] (spF K preA fMw)) : FnOk P w K mg base CX0 4 f fd ["kinds", "trees"] (spF K preS fSteps) := by
  refine F.ok sc_steps_of_trees (fun vs H Q E h => ?_) (fun cdv A outer s H vs Q E hr h => ?_)
  · obtain ⟨B, ds, e, hd, ⟨rs, n, rfl, _⟩, q⟩ := h
    exact hd.len
  · obtain ⟨B, ds, e, hd, ⟨rs, n, rfl, hl, hn, hval⟩, q⟩ := h
    obtain ⟨v, v2, rfl, hv, hv2⟩ := arg2 hd
    obtain rfl := dd_int hv
    obtain ⟨t, us, rfl, ht, _, htd⟩ := dd_tup hv2
    have hu64 : (A.deeper (envOfC "steps_of_trees" (defScope s_steps_of_trees) s.heap.objs.size f cdv)).units + 64 < cLine := hr.units
    refine ⟨_, (pss_cons (ps_setLc (i := 2) (own := [("_", 6)]) rfl sc_steps_of_trees.nd rfl rfl (sw_true rfl rfl rfl (by decide +kernel)) (pi_range1 rfl T.m_range (pa_cons (pv 0) pa_nil)) (blkOk_by (own := [("_", 6)]) (N := N_steps_of_trees) (sc := defScope s_steps_of_trees) (by decide +kernel)) (fun _ _ _ _ _ => pg_name (i := 6) sc_steps_of_trees.nd rfl (Or.inl rfl)) (fun _ _ _ _ _ => pts_nil) (fun _ _ _ _ _ => (pe_lst pa_nil)))
      (pss_cons (ps_for PassesOwn.never rfl (pi_seqK K (pv 1)) (pg_tup (by rfl) (pgs_cons (pg_name (i := 3) sc_steps_of_trees.nd rfl (Or.inl rfl)) (pgs_cons (pg_name (i := 4) sc_steps_of_trees.nd rfl (Or.inl rfl)) pgs_nil))) (pss_cons (ps_set (i := 5) sc_steps_of_trees.nd rfl (Or.inl rfl) (pe_callC C_graft_kinds (hr.mono (by decide)) rfl pass0 (pa_cons (pv 4) pa_nil)))
      (pss_one (ps_if (PW.pt (pw_and (pt_cmpR (op_eqDK K hu64) (pe_callC C_many_words (hr.mono (by decide)) rfl pass0 (pa_cons (pv 4) pa_nil)) pe_int (nomark _)) (pw_and1 (pt_cmpR (op_eqDK K hu64) (pe_callB (call_lenK K) (by rfl) T.m_len bt_len (pa_cons (pv 5) pa_nil)) pe_int (nomark _))))) (pss_one (ps_expr (pe_bm PySem.F.plainAttrs_list PySem.F.slot_list_append PySem.F.type_list_append mt_append (pe_ix (ix_seqK K) (pv 2) (pv 3) (fun _ _ => rfl)) (pa_cons (pe_ix (ix_seqK K) (pv 5) pe_int (fun _ _ => rfl)) pa_nil)))) pss_nil))))
      (pss_one (ps_ret (pv 2))))), ?_⟩
    refine ⟨.int (n : Nat), rfl, (n : Nat), rfl, by omega, by omega, fun Dl hDl => lc_range (lo := 0) (n := n) (fun i H' => ∃ refs : List Addr, refs.length = i ∧ Rep H H' Dl refs fun _ => []) ⟨[], rfl, Ex.new hDl, hDl, upd_same, List.nodup_nil, fun i r h => by simp at h⟩ (fun i H' hi ⟨refs, hlen, R⟩ => ?_) (fun H1 ⟨refs, hlen, R⟩ => ?_)⟩
    · refine ⟨rfl, ?_⟩
      show _ ∧ _
      refine ⟨Nat.zero_le _, fun a ha => ?_⟩
      have hal : a ≠ Dl := fun z => by rw [z, R.hD] at ha; cases ha
      have h0a : H a = none := fresh_back R.ex ha
      refine ⟨refs.map V.ref, by rw [upd_ne (Ne.symm hal)]; exact R.hD, by rw [List.length_map, sizeLine_eq, hlen]; omega, refs ++ [a], by rw [List.length_append, hlen]; rfl, ?_⟩
      refine ⟨fun x o h => ?_, R.fD, by rw [upd_same, List.map_append]; rfl, ?_, fun j r hj => ?_⟩
      · have n1 : x ≠ a := ne_of_none h h0a
        have n2 : x ≠ Dl := ne_of_none h R.fD
        rw [upd_ne n2, upd_ne n1]
        exact R.ex _ _ h
      · rw [List.nodup_append]
        refine ⟨R.nd, by simp, fun x hx y hy => ?_⟩
        rw [List.mem_singleton] at hy
        subst hy
        obtain ⟨j, hj⟩ := List.getElem?_of_mem hx
        intro z
        subst z
        rw [(R.it j x hj).2.2] at ha
        cases ha
      · by_cases hlt : j < refs.length
        · rw [List.getElem?_append_left hlt] at hj
          obtain ⟨r1, r2, r3⟩ := R.it j r hj
          refine ⟨r1, r2, ?_⟩
          have n1 : r ≠ a := fun z => by rw [z, ha] at r3; cases r3
          rw [upd_ne r2, upd_ne n1]
          exact r3
        · rw [List.getElem?_append_right (by omega)] at hj
          have hj0 : j - refs.length = 0 := by
            have := (List.getElem?_eq_some_iff.mp hj).1
            simp at this
            omega
          rw [hj0] at hj
          obtain rfl : a = r := by simpa using hj
          exact ⟨h0a, hal, by rw [upd_ne hal, upd_same]; rfl⟩
    · refine ⟨.ref t, rfl, t, rfl, .inr ⟨⟨us, ex_t (e.trans R.ex) ht⟩, for_tup (K := K) (xs := us) (fun i σ' H' => (∃ o3 o4 o5, σ' = [some (.int (n : Nat)), some (.ref t), some (.ref Dl), o3, o4, o5, none]) ∧ Rep H H' Dl refs fun k => adj (edgesT (rs.take i)) (k : Nat)) ⟨⟨none, none, none, rfl⟩, R⟩ (fun i σ' H' _ ⟨_, R'⟩ => ex_t (e.trans R'.ex) ht) (fun i x σ' H' hx ⟨⟨o3, o4, o5, ho⟩, R'⟩ => ?_) (fun σ' H' ⟨⟨o3, o4, o5, ho⟩, R'⟩ => ?_)⟩⟩
      · subst ho
        obtain ⟨r, hr1, hr2⟩ := htd.getv hx
        have hrd : Dd K H' x r := hr2.up (e.trans R'.ex)
        have hT := hval r (List.mem_of_getElem? hr1)
        obtain ⟨a, xx, rfl, TI, hsx, hwx⟩ := hT.is
        obtain ⟨t1, us1, rfl, ht1, _, hus1⟩ := dd_tup hrd
        obtain ⟨ua, ux, rfl, hua, hux⟩ := arg2 hus1
        obtain rfl := dd_int hua
        refine ⟨t1, _, rfl, ht1, rfl, .int a, _, rfl, ux, _, rfl, rfl, ?_⟩
        have hpre : preA [xx] := ⟨xx, n, rfl, TI.ok, hsx.le (by decide), by have := TI.len; omega⟩
        have eg : ED Fm.pure K (tCall (spF K preA fGk) [] E0 (tCons (tVar 4) tNil)) [some (.int (n : Nat)), some (.ref t), some (.ref Dl), some (.int a), some ux, o5, none] H' (.list (gksD xx)) := ed_F (eds_cons (ed_var rfl hux) eds_nil) hpre rfl
        refine eg H' (Ex.refl H') H' okH _ fun vg B1 H1 s1 j1 hg1 => ?_
        have R1 := R'.mono s1.ex
        have hg : Dd K H1 vg (.list (gksD xx)) := Dd.up hg1 j1.e
        have hux1 : Dd K H1 ux xx := hux.up s1.ex
        have hone : isOneT (.tuple [.int a, xx]) = (decide (cnt "word" (ND xx) = 0) && decide ((gksD xx).length = 1)) := by
          show (decide (cnt "word" (ND xx) = 0) && decide ((grafts xx).length = 1)) = _
          unfold gksD
          rw [List.length_map]
        have tst : ETt Fm.pure (tAnd (tTest (tOp (rEqD K) (tCall (spF K preA fMw) [] E0 (tCons (tVar 4) tNil)) (tC (.int 0)))) (tTest (tOp (rEqD K) (tCB (rLnK K) (tCons (tVar 5) tNil)) (tC (.int 1))))) [some (.int (n : Nat)), some (.ref t), some (.ref Dl), some (.int a), some ux, some vg, none] H1 (isOneT (.tuple [.int a, xx])) := by
          rw [hone]
          refine et_and (et_is (et_cmp (ed_op (K := K) (z := .bool (PyData.eqv (.int (cnt "word" (ND xx) : Nat)) (.int 0))) (ed_F (z := .int (cnt "word" (ND xx) : Nat)) (eds_cons (ed_var rfl hux1) eds_nil) hpre rfl) ed_int (rd_eqD rfl rfl))) ?_) fun _ => et_is (et_cmp (ed_op (K := K) (ev_cb (eds_cons (ed_var rfl hg) eds_nil) (rc_len (x := .list (gksD xx)) rfl)) ed_int (rd_eqD rfl rfl))) ?_
          · rw [eqv_int, Bool.eq_iff_iff, beq_iff_eq, decide_eq_true_eq]
            omega
          · rw [eqv_int]
            show ((((gksD xx).length : Nat) : Int) == 1) = _
            rw [Bool.eq_iff_iff, beq_iff_eq, decide_eq_true_eq]
            omega
        refine tst H1 (Ex.refl H1) H1 okH _ fun B2 H2 s2 j2 => ?_
        have R2 := R1.mono s2.ex
        by_cases hone1 : isOneT (.tuple [.int a, xx]) = true
        · rw [hone1]
          rw [if_pos rfl]
          obtain ⟨a', c, x'', y, hkx2, hgr, hgk, a0, a1, c0, c1, hedge⟩ := oneT_is hT.1 hone1
          obtain ⟨rfl, rfl⟩ : a = a' ∧ xx = x'' := by cases hkx2; exact ⟨rfl, rfl⟩
          have hgl : gksD xx = [.int c] := by rw [gks_one hgr, hgk]
          refine ⟨.ref Dl, rfl, .int a, rfl, ?_⟩
          have hlt : a.toNat < refs.length := by rw [hlen]; omega
          obtain ⟨r, hr⟩ : ∃ r, refs[a.toNat]? = some r := ⟨_, List.getElem?_eq_getElem hlt⟩
          have en : ((a.toNat : Nat) : Int) = a := by omega
          refine .inl ⟨Dl, refs.map V.ref, a, .ref r, rfl, rfl, sq_of R2.hD, at_of en.symm (by rw [List.getElem?_map, hr]; rfl), ?_⟩
          obtain ⟨r1, r2, r3⟩ := R2.it _ r hr
          refine ⟨.inl ⟨rfl, _, sq_of r3⟩, ?_⟩
          have ic : ED Fm.pure K (tOp (rIx K) (tVar 5) (tC (.int 0))) [some (.int (n : Nat)), some (.ref t), some (.ref Dl), some (.int a), some ux, some vg, none] H2 (.int c) := ed_op (ed_var rfl (hg.up s2.ex)) ed_int (rd_ixL (by rw [hgl]; exact atI_nat (j := 0) rfl))
          refine ic H2 (Ex.refl H2) H2 okH _ fun vc B4 H4 s4 j4 gc => ?_
          obtain rfl := dd_int gc
          have R4 := R2.mono s4.ex
          obtain ⟨q1, q2, q3⟩ := R4.it _ r hr
          refine ⟨r, _, .int c, rfl, rfl, q3, ?_, ⟨_, _, _, rfl⟩, ?_⟩
          · have := adj_len (edgesT (rs.take i)) ((a.toNat : Nat) : Int)
            have h2 := edgesT_len (rs.take i)
            have h3 : (rs.take i).length ≤ rs.length := by rw [List.length_take]; exact Nat.min_le_right _ _
            rw [List.length_map, sizeLine_eq]
            omega
          · refine ⟨fun y o h => ?_, R4.fD, by rw [upd_ne (Ne.symm q2)]; exact R4.hD, R4.nd, fun j y hy => ?_⟩
            · rw [upd_ne (ne_of_none h q1)]
              exact R4.ex _ _ h
            · obtain ⟨y1, y2, y3⟩ := R4.it j y hy
              refine ⟨y1, y2, ?_⟩
              rw [edgesT_snoc1 hr1 hone1, hedge]
              show upd H4 r _ y = some (.lst ((adj (edgesT (rs.take i) ++ [(a, c)]) ((j : Nat) : Int)).map V.int))
              rw [adj_snoc]
              by_cases hj : j = a.toNat
              · subst hj
                rw [hr] at hy
                cases hy
                rw [upd_same, if_pos en.symm, List.map_append]
                rfl
              · have nyr : y ≠ r := fun z => by
                  subst z
                  exact hj ((List.getElem?_inj (List.getElem?_eq_some_iff.mp hy).1 R4.nd).mp (hy.trans hr.symm))
                rw [upd_ne nyr, if_neg (by omega), List.append_nil]
                exact y3
        · have hone' : isOneT (.tuple [.int a, xx]) = false := by simpa using hone1
          rw [hone']
          rw [if_neg (by decide)]
          refine ⟨⟨_, _, _, rfl⟩, ?_⟩
          rw [edgesT_snoc0 hr1 hone']
          exact R2
      · subst ho
        refine ⟨.ref Dl, rfl, ?_⟩
        have lr : us.length = rs.length := htd.len
        rw [lr, List.take_length] at R'
        refine q (.ref Dl) (rst B H H') H' (rst_step e R'.ex) ?_
        show Dd K _ _ (adjD (edgesT rs) ((n : Int)).toNat)
        refine R'.data e hlen (by omega) fun i _ => ?_
        have := adj_len (edgesT rs) ((i : Nat) : Int)
        have h2 := edgesT_len rs
        omega

end
end K20

namespace K20
open PySem PySem.Spec PyProof.Rows L2 Evl Ex Dx
open PySem.PyData (strOk)

section
variable {P : Program} {w : World} {K : PySem.W.Frag} {mg : Str → Option Value} {base : Heap} {f : Addr} {fd : FuncData}

/-! ### kinds_behind -/
structure KS (H0 H : Hp) (fa wa : Addr) (S Wt : List Int) : Prop where
  ex : Ex H0 H
  f0 : H0 fa = none
  w0 : H0 wa = none
  ne : fa ≠ wa
  hf : H fa = some (.lst (S.map V.int))
  hw : H wa = some (.lst (Wt.map V.int))
theorem KS.mono {H0 H H' : Hp} {fa wa : Addr} {S Wt : List Int} (R : KS H0 H fa wa S Wt) (e : Ex H H') : KS H0 H' fa wa S Wt := ⟨R.ex.trans e, R.f0, R.w0, R.ne, e _ _ R.hf, e _ _ R.hw⟩
theorem KS.setF {H0 H : Hp} {fa wa : Addr} {S Wt S' : List Int} (R : KS H0 H fa wa S Wt) : KS H0 (upd H fa (.lst (S'.map V.int))) fa wa S' Wt :=
  ⟨fun x o h => by rw [upd_ne (ne_of_none h R.f0)]; exact R.ex _ _ h, R.f0, R.w0, R.ne, upd_same, by rw [upd_ne (Ne.symm R.ne)]; exact R.hw⟩
theorem KS.setW {H0 H : Hp} {fa wa : Addr} {S Wt W' : List Int} (R : KS H0 H fa wa S Wt) : KS H0 (upd H wa (.lst (W'.map V.int))) fa wa S W' :=
  ⟨fun x o h => by rw [upd_ne (ne_of_none h R.w0)]; exact R.ex _ _ h, R.f0, R.w0, R.ne, by rw [upd_ne R.ne]; exact R.hf, upd_same⟩
structure MI (E : List (Int × Int)) (n : Nat) (k : Int) (S Wt : List Int) : Prop where
  sound : ∀ x ∈ S, Gm.Rch E k x
  nd : S.Nodup
  wt : ∀ x ∈ Wt, x = k ∨ x ∈ S
  cl : ∀ a b, (a, b) ∈ E → (a = k ∨ a ∈ S) → b ∈ S ∨ a ∈ Wt
/-- within the turn for at, rest: the steps from it that are still to look at -/
structure MJ (E : List (Int × Int)) (n : Nat) (k at' : Int) (rest S Wt : List Int) : Prop where
  sound : ∀ x ∈ S, Gm.Rch E k x
  nd : S.Nodup
  wt : ∀ x ∈ Wt, x = k ∨ x ∈ S
  at_ : at' = k ∨ at' ∈ S
  cl : ∀ a b, (a, b) ∈ E → (a = k ∨ a ∈ S) → b ∈ S ∨ a ∈ Wt ∨ (a = at' ∧ b ∈ rest)
section
variable {E : List (Int × Int)} {n : Nat} {k x at' : Int} {S Wt rest : List Int}
theorem MI.len (hE : ∀ a b, (a, b) ∈ E → 0 ≤ b ∧ b < (n : Int)) (h : MI E n k S Wt) : S.length ≤ n := Gm.pig n S h.nd fun y hy => by
  have r := h.sound y hy
  cases r with
  | one e => exact hE _ _ e
  | more _ e => exact hE _ _ e
theorem MJ.len (hE : ∀ a b, (a, b) ∈ E → 0 ≤ b ∧ b < (n : Int)) (h : MJ E n k at' rest S Wt) : S.length ≤ n := Gm.pig n S h.nd fun y hy => by
  have r := h.sound y hy
  cases r with
  | one e => exact hE _ _ e
  | more _ e => exact hE _ _ e
theorem MI.start : MI E n k [] [k] := ⟨fun _ h => (nomatch h), List.nodup_nil, fun x hx => .inl (List.mem_singleton.mp hx), fun a b _ h => .inr (by
  rcases h with rfl | h
  · exact List.mem_singleton.mpr rfl
  · cases h)⟩
theorem MI.pop (h : MI E n k S (Wt ++ [at'])) : MJ E n k at' (adj E at') S Wt := ⟨h.sound, h.nd, fun x hx => h.wt x (List.mem_append_left _ hx), h.wt at' (List.mem_append_right _ (List.mem_singleton.mpr rfl)), fun a b hE ha => by
  rcases h.cl a b hE ha with h1 | h1
  · exact .inl h1
  · rcases List.mem_append.mp h1 with h2 | h2
    · exact .inr (.inl h2)
    · obtain rfl := List.mem_singleton.mp h2
      exact .inr (.inr ⟨rfl, mem_adj.mpr hE⟩)⟩
theorem MJ.skip (h : MJ E n k at' (x :: rest) S Wt) (hx : x ∈ S) : MJ E n k at' rest S Wt := ⟨h.sound, h.nd, h.wt, h.at_, fun a b hE ha => by
  rcases h.cl a b hE ha with h1 | h1 | ⟨h1, h2⟩
  · exact .inl h1
  · exact .inr (.inl h1)
  · rcases List.mem_cons.mp h2 with rfl | h3
    · exact .inl hx
    · exact .inr (.inr ⟨h1, h3⟩)⟩
theorem MJ.add (h : MJ E n k at' (x :: rest) S Wt) (hE : (at', x) ∈ E) (hx : x ∉ S) : MJ E n k at' rest (S ++ [x]) (Wt ++ [x]) := by
  have hr : Gm.Rch E k x := by
    rcases h.at_ with rfl | ha
    · exact .one hE
    · exact .more (h.sound _ ha) hE
  refine ⟨fun y hy => ?_, ?_, fun y hy => ?_, ?_, fun a b hab ha => ?_⟩
  · rcases List.mem_append.mp hy with h1 | h1
    · exact h.sound y h1
    · rw [List.mem_singleton.mp h1]
      exact hr
  · rw [List.nodup_append]
    refine ⟨h.nd, by simp, fun a ha b hb z => ?_⟩
    rw [List.mem_singleton.mp hb] at z
    exact hx (z ▸ ha)
  · rcases List.mem_append.mp hy with h1 | h1
    · rcases h.wt y h1 with h2 | h2
      · exact .inl h2
      · exact .inr (List.mem_append_left _ h2)
    · exact .inr (List.mem_append_right _ h1)
  · rcases h.at_ with h1 | h1
    · exact .inl h1
    · exact .inr (List.mem_append_left _ h1)
  · have old : (a = k ∨ a ∈ S) → b ∈ S ++ [x] ∨ a ∈ Wt ++ [x] ∨ (a = at' ∧ b ∈ rest) := fun ha' => by
      rcases h.cl a b hab ha' with h1 | h1 | ⟨h1, h2⟩
      · exact .inl (List.mem_append_left _ h1)
      · exact .inr (.inl (List.mem_append_left _ h1))
      · rcases List.mem_cons.mp h2 with rfl | h3
        · exact .inl (List.mem_append_right _ (List.mem_singleton.mpr rfl))
        · exact .inr (.inr ⟨h1, h3⟩)
    rcases ha with ha | ha
    · exact old (.inl ha)
    · rcases List.mem_append.mp ha with h1 | h1
      · exact old (.inr h1)
      · exact .inr (.inl (List.mem_append_right _ h1))
theorem MJ.done (h : MJ E n k at' [] S Wt) : MI E n k S Wt := ⟨h.sound, h.nd, h.wt, fun a b hE ha => by
  rcases h.cl a b hE ha with h1 | h1 | ⟨_, h2⟩
  · exact .inl h1
  · exact .inr h1
  · cases h2⟩
theorem MI.fin (h : MI E n k S []) (y : Int) : y ∈ S ↔ Gm.Rch E k y := ⟨h.sound y, fun r => Gm.closed_rch (fun a b hE ha => by
  rcases h.cl a b hE ha with h1 | h1
  · exact h1
  · cases h1) r⟩
end
def spKB (K : PySem.W.Frag) : Sp := fun vs H Q _ => ∃ (B : Hp) (E : List (Int × Int)) (n k : Nat) (v0 : V), Ex B H ∧ vs = [v0, .int (k : Nat)] ∧ Dd K B v0 (adjD E n) ∧ (∀ a b, (a, b) ∈ E → 0 ≤ b ∧ b < (n : Int)) ∧ k < n ∧ n ≤ 40 ∧ E.length ≤ 100 ∧
  ∀ v B' H' (S : List Int), Step (fun _ => False) B H B' H' → Dd K B' v (.list (S.map .int)) → (∀ x, x ∈ S ↔ Gm.Rch E (k : Nat) x) → Q v H'

abbrev s_kinds_behind : Stmt := topS 22
abbrev N_kinds_behind : List Str := ["steps", "kind", "found", "waiting", "at", "one"]
theorem sc_kinds_behind : FnScope N_kinds_behind ["steps", "kind"] (defScope s_kinds_behind) := ⟨rfl, rfl, rfl, by decide +kernel, rfl, by decide +kernel, by decide +kernel⟩
theorem ok_kinds_behind (F : Fun K "kinds_behind" "kinds_behind" s_kinds_behind f fd) (T : TC K mg) : FnOk P w K mg base CX0 1 f fd ["steps", "kind"] (spKB K) := by
  refine F.ok sc_kinds_behind (fun vs H Q E h => ?_) (fun cdv A outer s H vs Q E hr h => ?_)
  · obtain ⟨B, E, n, k, v0, e, rfl, _⟩ := h
    rfl
  · obtain ⟨B, E, n, k, v0, e, rfl, hv, hE, hk, hn, hlen, q⟩ := h
    obtain ⟨a0, xs0, rfl, h0, l0, d0⟩ := dd_lst hv
    refine ⟨_, (pss_cons (ps_set (i := 2) sc_kinds_behind.nd rfl (Or.inl rfl) (pe_lst pa_nil))
      (pss_cons (ps_set (i := 3) sc_kinds_behind.nd rfl (Or.inl rfl) (pe_lst (pa_cons (pv 1) pa_nil)))
      (pss_cons (ps_while PassesOwn.never (pt_tru K (pv 3)) (pss_cons (ps_set (i := 4) sc_kinds_behind.nd rfl (Or.inl rfl) (pe_bm0 PySem.F.plainAttrs_list PySem.F.slot_list_pop PySem.F.type_list_pop mt_pop (pv 3)))
      (pss_one (ps_for PassesOwn.never rfl (pi_seqK K (pe_ix (ix_seqK K) (pv 0) (pv 4) (fun _ _ => rfl))) (pg_name (i := 5) sc_kinds_behind.nd rfl (Or.inl rfl)) (pss_one (ps_if (pt_cmpR (op_ninK K) (pv 5) (pv 2) (by rfl)) (pss_cons (ps_expr (pe_bm PySem.F.plainAttrs_list PySem.F.slot_list_append PySem.F.type_list_append mt_append (pv 2) (pa_cons (pv 5) pa_nil)))
      (pss_one (ps_expr (pe_bm PySem.F.plainAttrs_list PySem.F.slot_list_append PySem.F.type_list_append mt_append (pv 3) (pa_cons (pv 5) pa_nil))))) pss_nil))))))
      (pss_one (ps_ret (pv 2)))))), ?_⟩
    refine ⟨Nat.zero_le _, fun fa hfa => ?_⟩
    refine ⟨.int (k : Nat), rfl, by show 1 ≤ sizeLine; decide, fun wa hwa => ?_⟩
    have nfw : fa ≠ wa := fun z => by rw [← z, upd_same] at hwa; cases hwa
    have w0 : H wa = none := by rw [upd_ne (Ne.symm nfw)] at hwa; exact hwa
    have K0 : KS H (upd (upd H fa (.lst [])) wa (.lst [.int (k : Nat)])) fa wa [] [(k : Int)] := ⟨fun x o h => by rw [upd_ne (ne_of_none h w0), upd_ne (ne_of_none h hfa)]; exact h, hfa, w0, nfw, by rw [upd_ne nfw, upd_same]; rfl, upd_same⟩
    refine ⟨fun m σ' H' => ∃ o1 o2 S Wt, σ' = [some (.ref a0), some (.int (k : Nat)), some (.ref fa), some (.ref wa), o1, o2] ∧ KS H H' fa wa S Wt ∧ MI E n (k : Nat) S Wt ∧ m = 2 * (n - S.length) + Wt.length ∧ m ≤ 100, ⟨_, none, none, [], [(k : Int)], rfl, K0, MI.start, rfl, by show 2 * (n - 0) + 1 ≤ 100; omega⟩, ?_⟩
    rintro m σ' H' ⟨o1, o2, S, Wt, rfl, R, M, rfl, hm0⟩
    have hSl := M.len hE
    have hWd : ∀ H2, Ex H' H2 → True := fun _ _ => trivial
    have tw : ETt Fm.pure (fun σ H Q => tVar 3 σ H fun x H' => ∃ k, TruV K x H' k ∧ Q k H') [some (.ref a0), some (.int (k : Nat)), some (.ref fa), some (.ref wa), o1, o2] H' (!Wt.isEmpty) := by
      intro B1 e1 H1 j1 Q1 q1
      refine ⟨.ref wa, rfl, !Wt.isEmpty, .inl ⟨Wt.map V.int, sq_of (j1.e _ _ (e1 _ _ R.hw)), ?_⟩, q1 B1 H1 (Step.refl j1.e) j1⟩
      cases Wt <;> rfl
    refine tw H' (Ex.refl H') H' okH _ fun B2 H2 s2 j2 => ?_
    have R2 := R.mono s2.ex
    by_cases hW : Wt = []
    · subst hW
      rw [show (!([] : List Int).isEmpty) = false from rfl, if_neg (by decide)]
      refine ⟨.ref fa, rfl, ?_⟩
      refine q (.ref fa) (rst B H H2) H2 S (rst_step e R2.ex) (dd_ints ((rst_new R2.f0).trans R2.hf) (by omega)) M.fin
    · obtain ⟨W', at', rfl⟩ := snoc_of hW
      have hb : (!(W' ++ [at']).isEmpty) = true := by
        cases W' <;> rfl
      rw [hb, if_pos rfl]
      refine ⟨_, fun σ2 H3 q => q, ?_⟩
      refine ⟨.ref wa, rfl, .inl ⟨rfl, _, sq_of R2.hw⟩, ?_⟩
      refine ⟨wa, _, .int at', rfl, rfl, R2.hw, by rw [List.map_append, List.length_append]; simp, ?_⟩
      have R3 : KS H (upd H2 wa (.lst ((W'.map V.int)))) fa wa S W' := R2.setW
      have ed : ((W' ++ [at']).map V.int).dropLast = W'.map V.int := by rw [List.map_append, List.map_singleton, List.dropLast_concat]
      rw [ed]
      have MJ0 := M.pop
      have hat : 0 ≤ at' ∧ at' < (n : Int) := by
        rcases MJ0.at_ with h | h
        · omega
        · have r := M.sound _ h
          cases r with
          | one e => exact hE _ _ e
          | more _ e => exact hE _ _ e
      have en : ((at'.toNat : Nat) : Int) = at' := by omega
      have hdat : ((List.range n).map fun k => PyData.list ((adj E (k : Nat)).map .int))[at'.toNat]? = some (.list ((adj E at').map .int)) := by
        rw [List.getElem?_map, List.getElem?_range (by omega), Option.map_some, en]
      obtain ⟨vl, hvl, hdl⟩ := d0.get hdat
      obtain ⟨l, ys, rfl, hl, _, dl⟩ := dd_lst hdl
      obtain rfl := ints_dd dl
      have hSq0 : ∀ H3, Ex H H3 → SqL K H3 a0 xs0 := fun H3 e3 => ex_l (e.trans e3) (sq_of h0)
      have hSql : ∀ H3, Ex H H3 → SqL K H3 l ((adj E at').map V.int) := fun H3 e3 => ex_l (e.trans e3) (sq_of hl)
      refine ⟨.ref a0, rfl, .int at', rfl, .inl ⟨a0, xs0, at', .ref l, rfl, rfl, hSq0 _ R3.ex, at_of en.symm hvl, ?_⟩⟩
      refine ⟨l, rfl, .inl ⟨⟨_, hSql _ R3.ex⟩, for_list (K := K) (xs := (adj E at').map V.int) (fun i σ' H' => ∃ o S' Wt', σ' = [some (.ref a0), some (.int (k : Nat)), some (.ref fa), some (.ref wa), some (.int at'), o] ∧ KS H H' fa wa S' Wt' ∧ MJ E n (k : Nat) at' ((adj E at').drop i) S' Wt' ∧ 2 * (n - S'.length) + Wt'.length < 2 * (n - S.length) + (W' ++ [at']).length) ⟨o2, S, W', rfl, R3, MJ0, by rw [List.length_append]; show _ < _ + (_ + 1); omega⟩ (fun i σ' H' _ ⟨_, _, _, _, R', _⟩ => hSql _ R'.ex) (fun i x σ' H' hx ⟨o, S', Wt', ho, R', M', hm⟩ => ?_) (fun σ' H' ⟨o, S', Wt', ho, R', M', hm⟩ => ?_)⟩⟩
      · subst ho
        obtain ⟨y, hy, rfl⟩ : ∃ y, (adj E at')[i]? = some y ∧ V.int y = x := by
          rw [List.getElem?_map] at hx
          cases hh : (adj E at')[i]? with
          | none => rw [hh] at hx; cases hx
          | some y => rw [hh] at hx; exact ⟨y, rfl, by simpa using hx⟩
        have hdrop : (adj E at').drop i = y :: (adj E at').drop (i + 1) := by
          obtain ⟨hlt, he⟩ := List.getElem?_eq_some_iff.mp hy
          rw [List.drop_eq_getElem_cons hlt, he]
        rw [hdrop] at M'
        have hSl' := M'.len hE
        have hyE : (at', y) ∈ E := mem_adj.mp (List.mem_of_getElem? hy)
        have fd : Dd K H' (.ref fa) (.list (S'.map .int)) := dd_ints R'.hf (by omega)
        have tst : ETt Fm.pure (tTest (tOp (rIn K true) (tVar 5) (tVar 2))) [some (.ref a0), some (.int (k : Nat)), some (.ref fa), some (.ref wa), some (.int at'), some (.int y)] H' (!S'.contains y) := et_is (et_cmp (ed_op (ed_var rfl (.int y)) (ed_var rfl fd) (rd_notin (.inl rfl) rfl (flatI _)))) (congrArg Bool.not (inD_int _ _))
        refine tst H' (Ex.refl H') H' okH _ fun B4 H4 s4 j4 => ?_
        have R4 := R'.mono s4.ex
        by_cases hc : S'.contains y = true
        · rw [hc, show (!true) = false from rfl, if_neg (by decide)]
          exact ⟨_, S', Wt', rfl, R4, M'.skip (List.contains_iff_mem.mp hc), hm⟩
        · have hc' : S'.contains y = false := by simpa using hc
          have hny : y ∉ S' := fun z => hc (List.contains_iff_mem.mpr z)
          rw [hc', show (!false) = true from rfl, if_pos rfl]
          have M5 := M'.add hyE hny
          have hSl5 := M5.len hE
          rw [List.length_append, List.length_singleton] at hSl5
          refine ⟨.ref fa, rfl, .inl ⟨rfl, _, sq_of R4.hf⟩, .int y, rfl, fa, _, .int y, rfl, rfl, R4.hf, by rw [List.length_map, sizeLine_eq]; omega, ?_⟩
          have e5 : S'.map V.int ++ [V.int y] = (S' ++ [y]).map V.int := by rw [List.map_append]; rfl
          rw [e5]
          have R5 : KS H (upd H4 fa (.lst ((S' ++ [y]).map V.int))) fa wa (S' ++ [y]) Wt' := R4.setF
          refine ⟨.ref wa, rfl, .inl ⟨rfl, _, sq_of R5.hw⟩, .int y, rfl, wa, _, .int y, rfl, rfl, R5.hw, by rw [List.length_map, sizeLine_eq]; omega, ?_⟩
          have e6 : Wt'.map V.int ++ [V.int y] = (Wt' ++ [y]).map V.int := by rw [List.map_append]; rfl
          rw [e6]
          refine ⟨_, S' ++ [y], Wt' ++ [y], rfl, R5.setW, M5, ?_⟩
          rw [List.length_append, List.length_append, List.length_singleton]
          omega
      · subst ho
        have M6 : MI E n (k : Nat) S' Wt' := by
          rw [List.length_map, List.drop_length] at M'
          exact M'.done
        exact ⟨2 * (n - S'.length) + Wt'.length, hm, _, _, S', Wt', rfl, R', M6, rfl, by omega⟩
end
end K20

namespace K20
open PySem PySem.Spec PyProof.Rows L2 Evl Ex Dx
open PySem.PyData (strOk)

section
variable {P : Program} {w : World} {K : PySem.W.Frag} {mg : Str → Option Value} {base : Heap} {f : Addr} {fd : FuncData}
def spEK (K : PySem.W.Frag) : Sp := fun vs H Q _ => ∃ (B : Hp) (E : List (Int × Int)) (n : Nat) (v0 : V), Ex B H ∧ vs = [v0] ∧ Dd K B v0 (adjD E n) ∧ (∀ a b, (a, b) ∈ E → 0 ≤ b ∧ b < (n : Int)) ∧ n ≤ 40 ∧ E.length ≤ 100 ∧
  ∀ v B' H', Step (fun _ => False) B H B' H' → Dd K B' v (optD (backK E n)) → Q v H'
theorem lenAdj (E : List (Int × Int)) (n : Nat) : lenD (adjD E n) = (n : Nat) := by
  show ((((List.range n).map fun k => PyData.list ((adj E (k : Nat)).map .int)).length : Nat) : Int) = _
  rw [List.length_map, List.length_range]

abbrev s_endless_kind : Stmt := topS 21
abbrev N_endless_kind : List Str := ["steps", "kind"]
theorem sc_endless_kind : FnScope N_endless_kind ["steps"] (defScope s_endless_kind) := ⟨rfl, rfl, rfl, by decide +kernel, rfl, by decide +kernel, by decide +kernel⟩
theorem ok_endless_kind (F : Fun K "endless_kind" "endless_kind" s_endless_kind f fd) (T : TC K mg) (C_kinds_behind : Callee P w K mg base "kinds_behind" 1 ["steps", "kind"] (spKB K)) : FnOk P w K mg base CX0 2 f fd ["steps"] (spEK K) := by
  refine F.ok sc_endless_kind (fun vs H Q E h => ?_) (fun cdv A outer s H vs Q E hr h => ?_)
  · obtain ⟨B, E, n, v0, e, rfl, _⟩ := h
    rfl
  · obtain ⟨B, ED_, n, vs, e, rfl, hs, hE, hn, hEl, q⟩ := h
    refine ⟨_, (pss_cons (ps_for PassesOwn.never rfl (pi_range1 rfl T.m_range (pa_cons (pe_callB (call_lenK K) (by rfl) T.m_len bt_len (pa_cons (pv 0) pa_nil)) pa_nil)) (pg_name (i := 1) sc_endless_kind.nd rfl (Or.inl rfl)) (pss_one (ps_if (pt_cmpR (op_inK K) (pv 1) (pe_callC C_kinds_behind (hr.mono (by decide)) rfl pass0 (pa_cons (pv 0) (pa_cons (pv 1) pa_nil))) (by rfl)) (pss_one (ps_ret (pv 1))) pss_nil)))
      (pss_one (ps_ret pe_non))), ?_⟩
    have a : At Fm.pure B H B H := At.start (Ok.any e)
    have key : ∀ k : Nat, (Gm.turns ED_ (k : Int) (n + 1)).contains (k : Int) = true ↔ Gm.Rch ED_ k k := fun k => by
      rw [List.contains_iff_mem]
      exact Gm.turns_all hE k
    refine qd_forR (K := K) (n := (n : Nat)) a (eds_cons (ed_is (ev_cb (eds_cons (ed_var rfl hs) eds_nil) (rc_len (x := adjD ED_ n) rfl)) (congrArg PyData.int (lenAdj ED_ n))) eds_nil) ⟨by omega, by omega⟩ (fun i σ' B' => (∃ o, σ' = [some vs, o]) ∧ ∀ k : Nat, k < i → (Gm.turns ED_ (k : Int) (n + 1)).contains (k : Int) = false) (fun B1 _ => ⟨⟨none, rfl⟩, fun k hk => absurd hk (Nat.not_lt_zero k)⟩) ?_ ?_
    · rintro Bb i σ' B2 H2 eb hi e2 a2 ⟨⟨o, rfl⟩, hno⟩
      have hi' : i < n := by omega
      have cb : EV Fm.pure (tCall (spKB K) [] E0 (tCons (tVar 0) (tCons (tVar 1) tNil))) [some vs, some (.int (i : Nat))] B2 (fun v B => ∃ S : List Int, Dd K B v (.list (S.map .int)) ∧ ∀ x, x ∈ S ↔ Gm.Rch ED_ (i : Nat) x) := fun B3 e3 H3 j3 Q3 q3 =>
        ⟨vs, rfl, .int (i : Nat), rfl, B3, ED_, n, i, vs, j3.e, rfl, hs.up ((eb.trans e2).trans e3), hE, hi', hn, hEl, fun v B' H' S s g hS => q3 v B' H' s.pure (j3.pure s) ⟨S, g, hS⟩⟩
      refine sv_if (b := (Gm.turns ED_ (i : Int) (n + 1)).contains (i : Int)) a2 (et_cmp (K := K) (ev_op (P := DD K (.int (i : Nat))) (ed_var rfl (.int (i : Nat))) cb upc_dd ?_)) (fun hb B4 H4 e4 a4 => ?_) (fun hb B4 H4 e4 a4 => ?_)
      · intro B3 e3 H3 u v j3 hu ⟨S, hS, hm⟩ Q3 q3
        refine rd_isin (F := Fm.pure) (K := K) (B := B3) (x := .int (i : Nat)) (y := .list (S.map .int)) (.inl rfl) rfl (flatI _) B3 (Ex.refl B3) H3 u v j3 hu hS Q3 fun w B' H' s j g => q3 w B' H' s j ?_
        rw [inD_int] at g
        have eb : S.contains ((i : Nat) : Int) = (Gm.turns ED_ (i : Int) (n + 1)).contains (i : Int) := by
          rw [Bool.eq_iff_iff, key, List.contains_iff_mem]
          exact hm _
        rw [eb] at g
        exact g
      · refine sv_ret (P := DD K (.int (i : Nat))) a4 (ed_var rfl (.int _)) fun v5 B5 H5 e5 a5 h5 => q _ B5 H5 a5.st ?_
        rw [backK_some hi' hb hno]
        exact h5
      · refine ⟨B4, e2.trans e4, a4, ⟨_, rfl⟩, fun k hk => ?_⟩
        rcases Nat.lt_succ_iff_lt_or_eq.mp hk with h | rfl
        · exact hno k h
        · exact hb
    · rintro σ' B2 H2 e2 a2 ⟨⟨o, rfl⟩, hno⟩
      refine sv_ret (P := DD K .none) a2 ed_non fun v5 B5 H5 e5 a5 h5 => q _ B5 H5 a5.st ?_
      rw [backK_none fun k hk => hno k (by show k < ((n : Nat) : Int).toNat; omega)]
      exact h5
theorem ev_ek {F : Fm} {σ : L2.St} {B : Hp} {te : TE} {E : List (Int × Int)} {n : Nat} (h : ED F K te σ B (adjD E n)) (hE : ∀ a b, (a, b) ∈ E → 0 ≤ b ∧ b < (n : Int)) (hn : n ≤ 40) (hl : E.length ≤ 100) : ED F K (tCall (spEK K) [] E0 (tCons te tNil)) σ B (optD (backK E n)) := fun B1 e0 H j Q q =>
  h B1 e0 H j _ fun v B2 H2 s2 j2 g => ⟨B2, E, n, v, j2.e, rfl, g, hE, hn, hl, fun v' B' H' s g' => q v' B' H' (s2.trans s.pure) (j2.pure s) g'⟩

/-! ### Trees -/
structure TP (P : Program) (w : World) (K : PySem.W.Frag) (mg : Str → Option Value) (base : Heap) (c0 c1 c2 CP : Addr) : Prop extends TC K mg where
  x_InvalidNumber : ExcAt P w K mg base "InvalidNumber" "value" c0
  x_InvalidTrees : ExcAt P w K mg base "InvalidTrees" "value" c1
  x_Endless : ExcAt P w K mg base "Endless" "kind" c2
  g_Trees : mg "Trees" = some (.ref CP)
  cl : Cls K CP
  nk : NoAttr K CP "kinds"
  nr : NoAttr K CP "trees"
  ca : PySem.W.findIn K (.ref CP) "__class__" = some (some (.builtin "object.__class__"))
  sg : PySem.W.specialIn K (.builtin "object.__class__") "__get__" = some (some (.builtin "getset_descriptor.__get__"))
  tk : PySem.W.takesIn K (.builtin "object.__class__") = some true
  mo : PySem.W.mroIn K CP (.type "object") = some true
  kt1 : PySem.W.kitOne K (.ref CP) (.ref CP) = some true
  kt2 : PySem.W.kitOne K (.type "tuple") (.ref CP) = some false
  m00 : PySem.W.exmOne K (.ref c0) (.ref c0) = some true
  m10 : PySem.W.exmOne K (.ref c1) (.ref c0) = some false
  m11 : PySem.W.exmOne K (.ref c1) (.ref c1) = some true
  m20 : PySem.W.exmOne K (.ref c2) (.ref c0) = some false
  m21 : PySem.W.exmOne K (.ref c2) (.ref c1) = some false
  m22 : PySem.W.exmOne K (.ref c2) (.ref c2) = some true
/-- the frame of an object that stands just so -/
theorem ob_lv {x a : Addr} {o : HO} {H : Hp} (h : H x = some o) (m : a = x) : H a ≠ none := by
  rw [m, h]
  exact fun z => nomatch z
theorem ob_fr {x a : Addr} {o o' : HO} {H : Hp} (h : H x = some o) (n : ¬ a = x) : upd H a o' x = some o := by
  rw [upd_ne (fun z => n z.symm)]
  exact h
def Fm.ob (x : Addr) (o : HO) : Fm := ⟨fun a => a = x, fun H => H x = some o, fun _ _ e h => e _ _ h, fun _ _ h m => ob_lv h m, fun _ _ _ h n => ob_fr h n⟩
theorem ob_set {x : Addr} {o o' : HO} {B H : Hp} (k : Ok (Fm.ob x o) B H) : Ok (Fm.ob x o') B (upd H x o') ∧ Step (fun a => a = x) B H B (upd H x o') := by
  have bx : B x = none := k.av x rfl
  have hb : Ex B (upd H x o') := fun a u h => by
    rw [upd_ne (ne_of_none h bx)]
    exact k.e a u h
  exact ⟨⟨hb, upd_same, fun a m => by rw [show a = x from m]; exact bx⟩, Ex.refl B, hb, fun a u n h => by rw [upd_ne n]; exact h, fun a h _ => h, fun a n => by
    by_cases e : a = x
    · rw [e, upd_same]
      exact fun z => nomatch z
    · rw [upd_ne e]
      exact n⟩

def spPairs (K : PySem.W.Frag) (CP c0 c1 c2 : Addr) : Sp := fun vs H Q E => ∃ (x dx : Addr) (B : Hp) (vk vr : V) (dk dr : PyData), vs = [.ref x, vk, vr] ∧ Ok (Fm.ob x (.ins CP dx [])) B H ∧ Dd K B vk dk ∧ Dd K B vr dr ∧ Sm 20 dr ∧ Wi dr ∧
  (dueT dk dr = .tuple [.str "kept", dk, dr] → ∀ vk' vr' B' H', Step (fun a => a = x) B H B' H' → B' x = none → H' x = some (.ins CP dx [("kinds", vk'), ("trees", vr')]) → Dd K B' vk' dk → Dd K B' vr' dr → Q .non H') ∧
  (dueT dk dr = .tuple [.str "number", dk] → ∀ v dd B' H1 H', Step (fun a => a = x) B H B' H1 → Dd K B' v dk → Ex H1 H' → H' dd = some (.xd [("value", v)]) → E (.ref c0) (some dd) H') ∧
  (dueT dk dr = .tuple [.str "trees", dr] → ∀ v dd B' H1 H', Step (fun a => a = x) B H B' H1 → Dd K B' v dr → Ex H1 H' → H' dd = some (.xd [("value", v)]) → E (.ref c1) (some dd) H') ∧
  (∀ b : Int, dueT dk dr = .tuple [.str "endless", .int b] → ∀ v dd B' H1 H', Step (fun a => a = x) B H B' H1 → Dd K B' v (.int b) → Ex H1 H' → H' dd = some (.xd [("kind", v)]) → E (.ref c2) (some dd) H')
theorem due_num' {k r : PyData} (h : inB k 1 8 = false) : dueT k r = .tuple [.str "number", k] := by
  cases k with
  | int n =>
    have h' : ¬ (1 ≤ n ∧ n ≤ 8) := fun z => by
      unfold inB at h
      simp only [Bool.and_eq_false_iff, decide_eq_false_iff_not] at h
      omega
    unfold dueT
    simp only
    rw [if_neg h']
  | _ => rfl
theorem inB_is {k : PyData} {lo hi : Int} (h : inB k lo hi = true) : ∃ n : Int, k = .int n ∧ lo ≤ n ∧ n ≤ hi := by
  cases k with
  | int n =>
    unfold inB at h
    simp only [Bool.and_eq_true, decide_eq_true_eq] at h
    exact ⟨n, rfl, h.1, h.2⟩
  | _ => cases h
theorem rules_is {r : PyData} {n : Int} (h : treesD r n = true) : ∃ rs, r = .tuple rs := by
  cases r with
  | tuple rs => exact ⟨rs, rfl⟩
  | _ => cases h


abbrev s_Trees_init : Stmt := inClass (topS 26) 0
abbrev N_Trees_init : List Str := ["self", "kinds", "trees", "endless", "tree"]
theorem sc_Trees_init : FnScope N_Trees_init ["self", "kinds", "trees"] (defScope s_Trees_init) := ⟨rfl, rfl, rfl, by decide +kernel, rfl, by decide +kernel, by decide +kernel⟩
section
variable {c0 c1 c2 CP : Addr}
theorem treesD_is {r : PyData} {n : Int} (h : treesD r n = true) : ∃ rs, r = .tuple rs := by
  cases r with
  | tuple rs => exact ⟨rs, rfl⟩
  | _ => cases h
set_option maxHeartbeats 8000000 in
theorem ok_pairs (F : Fun K "__init__" "Trees.__init__" s_Trees_init f fd) (T : TP P w K mg base c0 c1 c2 CP) (C_is_between : Callee P w K mg base "is_between" 2 ["value", "low", "high"] (spBetween K)) (C_is_trees : Callee P w K mg base "is_trees" 5 ["value", "kinds"] (spF K preT fTrees))
    (C_endless_kind : Callee P w K mg base "endless_kind" 2 ["steps"] (spEK K)) (C_steps_of_trees : Callee P w K mg base "steps_of_trees" 4 ["kinds", "trees"] (spF K preS fSteps)) (C_plain_tree : Callee P w K mg base "plain_tree" 21 ["tree"] (spF K prePT fId)) : FnOk P w K mg base (L2.CX P w) 22 f fd ["self", "kinds", "trees"] (spPairs K CP c0 c1 c2) := by
  refine F.okX sc_Trees_init (fun vs H Q E h => ?_) (fun cdv A outer s H vs Q E hr h => ?_)
  · obtain ⟨x, dx, B, vk, vr, dk, dr, rfl, _⟩ := h
    rfl
  · obtain ⟨x, dx, B, vk, vr, dk, dr, rfl, ok, hk, hrr, hsr, hwr, qk, qn, qr, qe⟩ := h
    refine ⟨_, (pss_cons (ps_if (pt_not (pt_val (pe_callC C_is_between (hr.mono (by decide)) rfl pass0 (pa_cons (pv 1) (pa_cons pe_int (pa_cons (pe_gint rfl T.c_MOST_TREE_KINDS) pa_nil)))))) (pss_one (ps_raise rfl (takes_of rfl rfl rfl rfl) (pmk_E T.x_InvalidNumber (hr.mono (by decide)) rfl (pa_cons (pv 1) pa_nil)))) pss_nil)
      (pss_cons (ps_if (pt_not (pt_val (pe_callC C_is_trees (hr.mono (by decide)) rfl pass0 (pa_cons (pv 2) (pa_cons (pv 1) pa_nil))))) (pss_one (ps_raise rfl (takes_of rfl rfl rfl rfl) (pmk_E T.x_InvalidTrees (hr.mono (by decide)) rfl (pa_cons (pv 2) pa_nil)))) pss_nil)
      (pss_cons (ps_set (i := 3) sc_Trees_init.nd rfl (Or.inl rfl) (pe_callC C_endless_kind (hr.mono (by decide)) rfl pass0 (pa_cons (pe_callC C_steps_of_trees (hr.mono (by decide)) rfl pass0 (pa_cons (pv 1) (pa_cons (pv 2) pa_nil))) pa_nil)))
      (pss_cons (ps_if (pt_cmpR op_notN (pv 3) pe_non (nomark _)) (pss_one (ps_raise rfl (takes_of rfl rfl rfl rfl) (pmk_E T.x_Endless (hr.mono (by decide)) rfl (pa_cons (pv 3) pa_nil)))) pss_nil)
      (pss_cons (ps_fld (pv 0) (pv 1) rfl)
      (pss_one (ps_fld (pv 0) (pe_callTy (call_tuple_ofK K) (by rfl) T.m_tuple bt_tuple (pa_cons (pe_lc (own := [("tree", 4)]) rfl sc_Trees_init.nd (pi_seqK K (pv 2)) (blkOk_by (own := [("tree", 4)]) (N := N_Trees_init) (sc := defScope s_Trees_init) (by decide +kernel)) (fun _ _ _ _ _ => pg_name (i := 4) sc_Trees_init.nd rfl (Or.inl rfl)) (fun _ _ _ _ _ => pts_nil) (fun _ _ _ _ _ => (pe_callC C_plain_tree (hr.mono (by decide)) rfl pass0 (pa_cons (pv 4) pa_nil)))) pa_nil)) rfl))))))), ?_⟩
    have a : At (Fm.ob x (.ins CP dx [])) B H B H := At.start ok
    refine qv_when (b := !inB dk 1 8) a (et_not (et_val (ed_F (eds_cons (ed_var rfl hk) (eds_cons ed_int (eds_cons ed_int eds_nil))) ⟨_, _, _, rfl⟩ rfl))) (fun hb B1 H1 e1 a1 => ?_) (fun hb B1 H1 e1 a1 => ?_)
    · exact mk_raise (P := DD K dk) a1.j (ed_var rfl (hk.up e1)) fun v B2 H2 dd H' s2 k2 hv hd e2 hx => qn (due_num' (by simpa using hb)) v dd B2 H2 H' (a1.st.trans s2) hv e2 hx
    obtain ⟨n, rfl, n1, n2⟩ := inB_is (k := dk) (by simpa using hb)
    obtain rfl := dd_int hk
    refine qv_when (b := !treesD dr n) a1 (et_not (et_val (ed_F (eds_cons (ed_var rfl (hrr.up e1)) (eds_cons (ed_var rfl (.int n)) eds_nil)) ⟨_, _, rfl, hsr.le (by decide), hwr⟩ rfl))) (fun hb2 B2 H2 e2 a2 => ?_) (fun hb2 B2 H2 e2 a2 => ?_)
    · exact mk_raise (P := DD K dr) a2.j (ed_var rfl (hrr.up (e1.trans e2))) fun v B3 H3 dd H' s3 k3 hv hd e3 hx => qr (dueT_trees ⟨n1, n2⟩ (by simpa using hb2)) v dd B3 H3 H' (a2.st.trans s3) hv e3 hx
    have hok : treesD dr n = true := by simpa using hb2
    obtain ⟨rs, rfl⟩ := treesD_is hok
    obtain ⟨l1, l2, hall⟩ := trees_all hok
    have en : ((n.toNat : Nat) : Int) = n := by omega
    have e12 := e1.trans e2
    have hTr : ∀ t ∈ rs, TrOk n t := fun t ht => ⟨hall t ht, (hsr.memT ht).le (by decide), hwr.mem ht⟩
    have hE : ∀ a b, (a, b) ∈ edgesT rs → 0 ≤ b ∧ b < ((n.toNat : Nat) : Int) := fun a b h => by
      have := edgesT_in hall a b h
      rw [en]
      exact ⟨this.2.2.1, this.2.2.2⟩
    refine qv_asg (P := DD K (optD (backK (edgesT rs) n.toNat))) a2 (ev_ek (ed_F (z := adjD (edgesT rs) n.toNat) (eds_cons (ed_var rfl (.int n)) (eds_cons (ed_var rfl (hrr.up e12)) eds_nil)) ⟨rs, n.toNat, by rw [en], by omega, by omega, by rw [en]; exact hTr⟩ rfl) hE (by omega) (by have := edgesT_len rs; omega)) fun vb B3 H3 e3 a3 h3 => ?_
    have due := dueT_back ⟨n1, n2⟩ hok
    refine qv_when (b := !isNon (optD (backK (edgesT rs) n.toNat))) a3 (et_cmp (ed_op (ed_var rfl h3) ed_non rd_notN)) (fun hb4 B4 H4 e4 a4 => ?_) (fun hb4 B4 H4 e4 a4 => ?_)
    · cases hh : backK (edgesT rs) n.toNat with
      | none => rw [hh] at hb4; cases hb4
      | some b =>
        rw [hh] at due h3
        exact mk_raise (P := DD K (.int b)) a4.j (ed_var rfl (h3.up e4)) fun v B5 H5 dd H' s5 k5 hv hd e5 hx => qe b due v dd B5 H5 H' (a4.st.trans s5) hv e5 hx
    · have hh : backK (edgesT rs) n.toNat = none := by
        cases hh : backK (edgesT rs) n.toNat with
        | none => rfl
        | some b => rw [hh] at hb4; cases hb4
      rw [hh] at due
      have hr4 : Dd K B4 vr (.tuple rs) := hrr.up ((e12.trans e3).trans e4)
      refine ⟨.int n, rfl, .ref x, rfl, x, CP, dx, [], rfl, a4.j.j, T.cl, T.nk, by decide, ?_⟩
      obtain ⟨k5, s5⟩ := ob_set (o' := .ins CP dx (putF "kinds" (.int n) [])) a4.j
      have a5 : At (Fm.ob x (.ins CP dx (putF "kinds" (.int n) []))) B4 (upd H4 x (.ins CP dx (putF "kinds" (.int n) []))) B4 (upd H4 x (.ins CP dx (putF "kinds" (.int n) []))) := At.start k5
      have evt : ED (Fm.ob x (.ins CP dx (putF "kinds" (.int n) []))) K _ _ B4 (.tuple rs) := ev_cb (eds_cons (ed_is (ed_lcD (j := 4) (vsN := [4]) (fun _ => true) (fun r => r) (ev_seqT (ed_var (i := 2) (σ := [some (.ref x), some (.int n), some vr, some vb, none]) rfl hr4)) (by omega) (fun _ => rfl) (fun d v B6 _ _ _ => et_yes) (fun d v B6 hm _ _ hdv => ed_F (pre := prePT) (f := fId) (E := E0) (eds_cons (ed_var (i := 4) rfl hdv) eds_nil) ⟨d, n, rfl, (hTr d hm).1, (hTr d hm).2.1, (hTr d hm).2.2⟩ rfl)) (by rw [List.filter_eq_self.mpr (fun _ _ => rfl), List.map_id'])) eds_nil) rc_tupL
      dsimp only
      unfold sFld
      refine evt B4 (Ex.refl B4) _ k5 _ fun v6 B6 H6 s6 k6 g6 => ?_
      refine ⟨.ref x, rfl, x, CP, dx, _, rfl, k6.j, T.cl, T.nr, by show 1 < 1000; decide, ?_⟩
      obtain ⟨k7, s7⟩ := ob_set (o' := .ins CP dx (putF "trees" v6 (putF "kinds" (.int n) []))) k6
      exact qk due (.int n) v6 B6 _ (((a4.st.trans s5).trans s6).trans s7) (k6.av x rfl) (by rw [upd_same]; rfl) (.int n) g6

end

end
end K20

namespace K20
open PySem PySem.Spec PyProof.Rows L2 Evl Ex Dx
open PySem.PyData (strOk)

section
variable {P : Program} {w : World} {K : PySem.W.Frag} {mg : Str → Option Value} {base : Heap} {f : Addr} {fd : FuncData}

variable {c0 c1 c2 CP : Addr}
def InsP (K : PySem.W.Frag) (CP : Addr) (dk dr : PyData) : PV := fun v B => ∃ (x dx : Addr) (vk vr : V), v = .ref x ∧ B x = some (.ins CP dx [("kinds", vk), ("trees", vr)]) ∧ Dd K B vk dk ∧ Dd K B vr dr
theorem upc_ins {dk dr : PyData} : Upc (InsP K CP dk dr) := fun v B B' e ⟨x, dx, vk, vr, h1, h2, h3, h4⟩ => ⟨x, dx, vk, vr, h1, e _ _ h2, h3.up e, h4.up e⟩
section
variable {F : Fm} {B : Hp} {σ : L2.St} {te : TE} {tas : TA} {dk dr dk2 dr2 : PyData}
theorem ev_fk (T : TP P w K mg base c0 c1 c2 CP) (h : EV F te σ B (InsP K CP dk dr)) : ED F K (tFld K te "kinds") σ B dk := fun B1 e0 H k Q q => h B1 e0 H k _ fun v B2 H2 s2 k2 ⟨x, dx, vk, vr, e, h2, h3, h4⟩ => ⟨x, CP, dx, _, vk, e, k2.e _ _ h2, T.cl, T.nk, rfl, q vk B2 H2 s2 k2 h3⟩
theorem ev_fr (T : TP P w K mg base c0 c1 c2 CP) (h : EV F te σ B (InsP K CP dk dr)) : ED F K (tFld K te "trees") σ B dr := fun B1 e0 H k Q q => h B1 e0 H k _ fun v B2 H2 s2 k2 ⟨x, dx, vk, vr, e, h2, h3, h4⟩ => ⟨x, CP, dx, _, vr, e, k2.e _ _ h2, T.cl, T.nr, rfl, q vr B2 H2 s2 k2 h4⟩
theorem ev_isP (T : TP P w K mg base c0 c1 c2 CP) (h : EV F te σ B (InsP K CP dk dr)) : ED F K (tCB (rIsi K) (tCons te (tCons (tC (.ref CP)) tNil))) σ B (.bool true) := fun B1 e0 H k Q q => h B1 e0 H k _ fun v B2 H2 s2 k2 ⟨x, dx, vk, vr, e, h2, h3, h4⟩ =>
  ⟨v, .ref CP, .ref CP, .ref CP, true, rfl, .own CP, by rw [e]; exact .base (.ins (k2.e _ _ h2) T.cl T.ca T.sg T.tk T.mo), T.kt1, q _ B2 H2 s2 k2 (.bl true)⟩
theorem ev_isT (T : TP P w K mg base c0 c1 c2 CP) {ds : List PyData} (h : ED F K te σ B (.tuple ds)) : ED F K (tCB (rIsi K) (tCons te (tCons (tC (.ref CP)) tNil))) σ B (.bool false) := fun B1 e0 H k Q q => h B1 e0 H k _ fun v B2 H2 s2 k2 g =>
  ⟨v, .ref CP, .type "tuple", .ref CP, false, rfl, .own CP, tyX (Dd.up g k2.e), T.kt2, q _ B2 H2 s2 k2 (.bl false)⟩
theorem made_step0 {x dx : Addr} {B' H H' : Hp} {o : HO} (hx : H x = none) (hdx : H dx = none) (s : Step (fun a => a = x) B (upd (upd H dx (.own x)) x o) B' H') : Step (fun _ => False) B H B' H' := by
  have up : ∀ a u, H a = some u → upd (upd H dx (.own x)) x o a = some u := fun a u h => by
    rw [upd_ne (ne_of_none h hx), upd_ne (ne_of_none h hdx)]
    exact h
  have lv : ∀ a, H a ≠ none → upd (upd H dx (.own x)) x o a ≠ none := fun a n => by
    cases hh : H a with
    | none => exact absurd hh n
    | some u =>
      rw [up a u hh]
      exact fun z => nomatch z
  exact ⟨s.bb, s.bh, fun a u _ h => s.keep a u (fun z => ne_of_none h hx z) (up a u h), fun a h n => s.sep a h (lv a n), fun a n => s.live a (lv a n)⟩
theorem made_step {x dx : Addr} {B' H H' : Hp} {o o' : HO} (e : Ex B H) (hx : H x = none) (hdx : H dx = none) (s : Step (fun a => a = x) B (upd (upd H dx (.own x)) x o) B' H') (bx : B' x = none) (hx' : H' x = some o') : Step (fun _ => False) B H (upd B' x o') H' := by
  have s0 := made_step0 hx hdx s
  exact ⟨fun a u h => by rw [upd_ne (ne_of_none (e _ _ h) hx)]; exact s0.bb _ _ h, fun a u h => by
    by_cases ea : a = x
    · subst ea
      rw [upd_same] at h
      rw [hx']
      exact h
    · rw [upd_ne ea] at h
      exact s0.bh _ _ h, s0.keep, fun a h n => by
    have ea : a ≠ x := fun z => n (z ▸ hx)
    rw [upd_ne ea]
    exact s0.sep a h n, s0.live⟩
theorem made_ok {x dx : Addr} {H : Hp} {o : HO} (e : Ex B H) (hx : H x = none) (hdx : H dx = none) : Ok (Fm.ob x o) B (upd (upd H dx (.own x)) x o) := ⟨fun a u h => by
  have h' := e _ _ h
  rw [upd_ne (ne_of_none h' hx), upd_ne (ne_of_none h' hdx)]
  exact h', upd_same, fun a m => by rw [show a = x from m]; exact fresh_back e hx⟩
theorem ev_make {E : L2.St → XK} (ha : EDs F K tas σ B [dk, dr]) (hd : dueT dk dr = .tuple [.str "kept", dk, dr]) (hsr : Sm 20 dr) (hwr : Wi dr) : EV F (tMakeS CP (spPairs K CP c0 c1 c2) E tas) σ B (InsP K CP dk dr) := fun B1 e0 H k Q q => ha B1 e0 H k _ fun vs B2 H2 s2 k2 g => by
  intro x dx hx hdx hne
  obtain ⟨vk, vr, rfl, gk, gr⟩ := arg2 g
  refine ⟨x, dx, B2, vk, vr, dk, dr, rfl, made_ok k2.e hx hdx, gk, gr, hsr, hwr, fun _ vk' vr' B' H' s bx hx' h1 h2 => ⟨rfl, ?_⟩, fun h => (by rw [hd] at h; cases h), fun h => (by rw [hd] at h; cases h), fun b h => (by rw [hd] at h; cases h)⟩
  have s3 := made_step k2.e hx hdx s bx hx'
  exact q _ _ _ (s2.trans s3.pure) (k2.pure s3) ⟨x, dx, vk', vr', rfl, upd_same, h1.up (Ex.new bx), h2.up (Ex.new bx)⟩
end
def spEq (K : PySem.W.Frag) (CP : Addr) : Sp := fun vs H Q _ => ∃ (B : Hp) (v u : V) (dk dr : PyData) (b : Bool), vs = [v, u] ∧ Ex B H ∧ InsP K CP dk dr v B ∧ SeqAt.shaped dk = true ∧ SeqAt.shaped dr = true ∧
  ((∃ dk2 dr2, InsP K CP dk2 dr2 u B ∧ SeqAt.shaped dk2 = true ∧ SeqAt.shaped dr2 = true ∧ b = (PyData.eqv dk dk2 && PyData.eqv dr dr2)) ∨ ((∃ ds, Dd K B u (.tuple ds)) ∧ b = false)) ∧ ∀ B' H', Step (fun _ => False) B H B' H' → Q (.bl b) H'


abbrev s_Trees_eq : Stmt := inClass (topS 26) 1
abbrev N_Trees_eq : List Str := ["self", "other"]
theorem sc_Trees_eq : FnScope N_Trees_eq ["self", "other"] (defScope s_Trees_eq) := ⟨rfl, rfl, rfl, by decide +kernel, rfl, by decide +kernel, by decide +kernel⟩
theorem ok_eq (F : Fun K "__eq__" "Trees.__eq__" s_Trees_eq f fd) (T : TP P w K mg base c0 c1 c2 CP) : FnOk P w K mg base CX0 1 f fd ["self", "other"] (spEq K CP) := by
  refine F.ok sc_Trees_eq (fun vs H Q E h => ?_) (fun cdv A outer s H vs Q E hr h => ?_)
  · obtain ⟨B, v, u, dk, dr, b, rfl, _⟩ := h
    rfl
  · obtain ⟨B, v, u, dk, dr, b, rfl, e, hi, s1, s2, hu, q⟩ := h
    have hu64 : (A.deeper (envOfC "Trees.__eq__" (defScope s_Trees_eq) s.heap.objs.size f cdv)).units + 64 < cLine := hr.units
    refine ⟨_, (pss_one (ps_ret (pe_and (pe_callB (call_isiK1 K) (by rfl) T.m_isinstance bt_isinstance (pa_cons (pv 1) (pa_cons (pe_glob (v := .ref _) rfl T.g_Trees rfl) pa_nil))) (pe_and (pe_cmpR (op_eqDK K hu64) (pe_fldK K (pv 0)) (pe_fldK K (pv 1)) (nomark _)) (pe_one (pe_cmpR (op_eqDK K hu64) (pe_fldK K (pv 0)) (pe_fldK K (pv 1)) (nomark _))))))), ?_⟩
    have a : At Fm.pure B H B H := At.start (Ok.any e)

    rcases hu with ⟨dk2, dr2, hu, s3, s4, rfl⟩ | ⟨⟨ds, hu⟩, rfl⟩
    · refine sv_ret (P := DD K (.bool (PyData.eqv dk dk2 && PyData.eqv dr dr2))) a (ed_is (ed_andV (ev_isP T (ev_var rfl upc_ins hu)) fun _ => ed_andV (ed_op (ev_fk T (ev_var rfl upc_ins hi)) (ev_fk T (ev_var rfl upc_ins hu)) (rd_eqD s1 s3)) fun _ => ed_op (ev_fr T (ev_var rfl upc_ins hi)) (ev_fr T (ev_var rfl upc_ins hu)) (rd_eqD s2 s4)) (by rw [Bool.true_and])) fun v1 B1 H1 e1 a1 h1 => ?_
      obtain rfl := dd_bl h1
      exact q B1 H1 a1.st
    · refine sv_ret (P := DD K (.bool false)) a (ed_andV (c := true) (ev_isT T (ed_var rfl hu)) fun h => nomatch h) fun v1 B1 H1 e1 a1 h1 => ?_
      obtain rfl := dd_bl h1
      exact q B1 H1 a1.st
section
variable {F : Fm} {B : Hp} {dk dr dk2 dr2 : PyData} {E : XK}
theorem rv_ownEq (s1 : SeqAt.shaped dk = true) (s2 : SeqAt.shaped dr = true) (s3 : SeqAt.shaped dk2 = true) (s4 : SeqAt.shaped dr2 = true) : RV2 F (rOwnEq K CP (spEq K CP) E) B (InsP K CP dk dr) (InsP K CP dk2 dr2) (DD K (.bool (PyData.eqv dk dk2 && PyData.eqv dr dr2))) := fun B1 e0 H u v j hu hv Q q => by
  obtain ⟨x, dx, vk, vr, rfl, h1, h2, h3⟩ := hu
  obtain ⟨y, dy, wk, wr, rfl, g1, g2, g3⟩ := hv
  exact ⟨x, dx, _, rfl, j.e _ _ h1, .inl ⟨y, dy, _, rfl, j.e _ _ g1⟩, B1, .ref x, .ref y, dk, dr, _, rfl, j.e, ⟨x, dx, vk, vr, rfl, h1, h2, h3⟩, s1, s2, .inl ⟨dk2, dr2, ⟨y, dy, wk, wr, rfl, g1, g2, g3⟩, s3, s4, rfl⟩, fun B' H' s => ⟨⟨_, rfl⟩, q _ B' H' s.pure (j.pure s) (.bl _)⟩⟩
theorem rv_ownEqT {ds : List PyData} (s1 : SeqAt.shaped dk = true) (s2 : SeqAt.shaped dr = true) : RV2 F (rOwnEq K CP (spEq K CP) E) B (InsP K CP dk dr) (DD K (.tuple ds)) (DD K (.bool false)) := fun B1 e0 H u v j hu hv Q q => by
  obtain ⟨x, dx, vk, vr, rfl, h1, h2, h3⟩ := hu
  obtain ⟨y, ys, rfl, g1, g2, g3⟩ := dd_tup hv
  exact ⟨x, dx, _, rfl, j.e _ _ h1, .inr ⟨y, ys, rfl, ex_t j.e g1⟩, B1, .ref x, .ref y, dk, dr, _, rfl, j.e, ⟨x, dx, vk, vr, rfl, h1, h2, h3⟩, s1, s2, .inr ⟨⟨ds, hv⟩, rfl⟩, fun B' H' s => ⟨⟨_, rfl⟩, q _ B' H' s.pure (j.pure s) (.bl _)⟩⟩
end

def spMade (K : PySem.W.Frag) (CP : Addr) : Sp := fun vs H Q _ => ∃ (B : Hp) (v : V) (dk dr : PyData), vs = [v] ∧ Ex B H ∧ Dd K B v (.tuple [dk, dr]) ∧ dueT dk dr = .tuple [.str "kept", dk, dr] ∧ Sm 20 dr ∧ Wi dr ∧ ∀ v' B' H', Step (fun _ => False) B H B' H' → InsP K CP dk dr v' B' → Q v' H'
variable {fI : Addr} {fdI : FuncData}


abbrev s_law_wood : Stmt := topS 46
abbrev N_law_wood : List Str := ["forest"]
theorem sc_law_wood : FnScope N_law_wood ["forest"] (defScope s_law_wood) := ⟨rfl, rfl, rfl, by decide +kernel, rfl, by decide +kernel, by decide +kernel⟩
theorem ok_law_wood (F : Fun K "_law_wood" "_law_wood" s_law_wood f fd) (T : TP P w K mg base c0 c1 c2 CP) (M_Pairs : Mk K CP fI) (G_Pairs : FnOk P w K mg base (L2.CX P w) 22 fI fdI ["self", "kinds", "trees"] (spPairs K CP c0 c1 c2)) (B_Pairs : L2.Binds K fdI ["self", "kinds", "trees"] []) : FnOk P w K mg base CX0 24 f fd ["forest"] (spMade K CP) := by
  refine F.ok sc_law_wood (fun vs H Q E h => ?_) (fun cdv A outer s H vs Q E hr h => ?_)
  · obtain ⟨B, v, dk, dr, rfl, _⟩ := h
    rfl
  · obtain ⟨B, v, dk, dr, rfl, e, hv, hd, hsr, hwr, q⟩ := h
    refine ⟨_, (pss_one (ps_ret (pe_makeS M_Pairs G_Pairs (hr.mono (by decide)) rfl T.g_Trees B_Pairs (fun σ => passAt takes0 σ) (pa_cons (pe_ix (ix_seqK K) (pv 0) pe_int (fun _ _ => rfl)) (pa_cons (pe_ix (ix_seqK K) (pv 0) pe_int (fun _ _ => rfl)) pa_nil))))), ?_⟩
    have a : At Fm.pure B H B H := At.start (Ok.any e)

    exact sv_ret (P := InsP K CP dk dr) a (ev_make (eds_cons (ed_op (ed_var rfl hv) ed_int (rd_ixT at2_0)) (eds_cons (ed_op (ed_var rfl hv) ed_int (rd_ixT at2_1)) eds_nil)) hd hsr hwr) fun v1 B1 H1 e1 a1 h1 => q v1 B1 H1 a1.st h1

abbrev s_law_told : Stmt := topS 47
abbrev N_law_told : List Str := ["kinds", "trees", "made", "e"]
theorem sc_law_told : FnScope N_law_told ["kinds", "trees"] (defScope s_law_told) := ⟨rfl, rfl, rfl, by decide +kernel, rfl, by decide +kernel, by decide +kernel⟩
theorem ok_law_told (F : Fun K "_law_told" "_law_told" s_law_told f fd) (T : TP P w K mg base c0 c1 c2 CP) (M_Pairs : Mk K CP fI) (G_Pairs : FnOk P w K mg base (L2.CX P w) 22 fI fdI ["self", "kinds", "trees"] (spPairs K CP c0 c1 c2)) (B_Pairs : L2.Binds K fdI ["self", "kinds", "trees"] []) : FnOk P w K mg base CX0 24 f fd ["kinds", "trees"] (spF K preDue fDueT) := by
  refine F.ok sc_law_told (fun vs H Q E h => ?_) (fun cdv A outer s H vs Q E hr h => ?_)
  · obtain ⟨B, ds, e, hd, ⟨k, r, rfl, hsr, hwr⟩, q⟩ := h
    exact hd.len
  · obtain ⟨B, ds, e, hd, ⟨k, r, rfl, hsr, hwr⟩, q⟩ := h
    obtain ⟨vk, vr, rfl, hk, hrr⟩ := arg2 hd
    refine ⟨_, (pss_cons (ps_try_names (i := 3) (Wout := fun _ _ _ _ => False) rfl rfl sc_law_told.nd rfl rfl takes0 (fun W pn xe tk _ => (pss_one (ps_set (i := 2) sc_law_told.nd rfl (Or.inl rfl) (pe_makeS M_Pairs G_Pairs (hr.mono (by decide)) rfl T.g_Trees B_Pairs (fun σ => passAt tk σ) (pa_cons (pv 0) (pa_cons (pv 1) pa_nil))))))
        (.cons ⟨rfl, by decide, Or.inl T.x_InvalidNumber.g⟩ (fun a oe cls d pn hz hf => (pss_one (ps_ret (pe_tup (pa_cons pe_str (pa_cons (pe_xf T.x_InvalidNumber.xf T.x_InvalidNumber.no hz hf (pv 3)) pa_nil))))))
        (.cons ⟨rfl, by decide, Or.inl T.x_InvalidTrees.g⟩ (fun a oe cls d pn hz hf => (pss_one (ps_ret (pe_tup (pa_cons pe_str (pa_cons (pe_xf T.x_InvalidTrees.xf T.x_InvalidTrees.no hz hf (pv 3)) pa_nil))))))
        (.cons ⟨rfl, by decide, Or.inl T.x_Endless.g⟩ (fun a oe cls d pn hz hf => (pss_one (ps_ret (pe_tup (pa_cons pe_str (pa_cons (pe_xf T.x_Endless.xf T.x_Endless.no hz hf (pv 3)) pa_nil)))))) .nil))))
      (pss_one (ps_ret (pe_tup (pa_cons pe_str (pa_cons (pe_fldK K (pv 2)) (pa_cons (pe_fldK K (pv 2)) pa_nil))))))), ?_⟩
    have fin : ∀ (x dx : Addr) (B' H1 H' : Hp) (o : HO) (tag : Str) (d : PyData) (v : V) (p : Addr), H x = none → H dx = none → Step (fun a => a = x) B (upd (upd H dx (.own x)) x o) B' H1 → Dd K B' v d → Ex H1 H' → tag.length ≤ sizeLine → dueT k r = .tuple [.str tag, d] → H' p = none → Q (.ref p) (upd H' p (.tup [.str tag, v])) := by
      intro x dx B' H1 H' o tag d v p hx hdx s hv eH ht hdue hp
      have s0 := made_step0 hx hdx s
      have s1 : Step (fun _ => False) B' H1 B' H' := ⟨Ex.refl B', s0.bh.trans eH, fun a u _ h => eH _ _ h, fun a h _ => h, fun a n => by
        cases hh : H1 a with
        | none => exact absurd hh n
        | some u =>
          rw [eH _ _ hh]
          exact fun z => nomatch z⟩
      have bp : B' p = none := fresh_back s1.bh hp
      refine q _ _ _ ((s0.trans s1).trans (Step.alloc s1.bh hp)) ?_
      show Dd K _ _ (dueT k r)
      rw [hdue]
      exact .tup (st_of upd_same) (by show 2 ≤ sizeLine; decide) (.cons (.str _ ht) (.cons (hv.up (Ex.new bp)) .nil))
    refine ⟨vk, rfl, vr, rfl, fun x dx hx hdx hne => ⟨x, dx, B, vk, vr, k, r, rfl, made_ok e hx hdx, hk, hrr, hsr, hwr, fun hdue vk' vr' B' H' s bx hx' h1 h2 => ⟨rfl, ?_⟩, fun hdue v dd B' H1 H' s hv eH hdd => ?_, fun hdue v dd B' H1 H' s hv eH hdd => ?_, fun b hdue v dd B' H1 H' s hv eH hdd => ?_⟩⟩
    · have s3 := made_step e hx hdx s bx hx'
      have a : At Fm.pure B H (upd B' x (.ins CP dx [("kinds", vk'), ("trees", vr')])) H' := ⟨s3, Ok.any s3.bh⟩
      have hi : InsP K CP k r (.ref x) (upd B' x (.ins CP dx [("kinds", vk'), ("trees", vr')])) := ⟨x, dx, vk', vr', rfl, upd_same, h1.up (Ex.new bx), h2.up (Ex.new bx)⟩
      refine sv_ret (P := DD K (.tuple [.str "kept", k, r])) a (ed_tup (eds_cons ed_str (eds_cons (ev_fk T (ev_var rfl upc_ins hi)) (eds_cons (ev_fr T (ev_var rfl upc_ins hi)) eds_nil)))) fun v1 B1 H1 e1 a1 h1 => ?_
      refine q v1 B1 H1 a1.st ?_
      show Dd K _ _ (dueT k r)
      rw [hdue]
      exact h1
    · refine ⟨true, T.m00, fun _ a0 ha0 => ⟨.ref a0, rfl, rfl, rfl, dd, _, v, rfl, hdd, rfl, by show 2 ≤ sizeLine; decide, fun p hp => ?_⟩, fun h => nomatch h⟩
      exact fin x dx B' H1 H' _ "number" k v p hx hdx s hv eH (by decide) hdue hp
    · refine ⟨false, T.m10, fun h => (nomatch h), fun _ => ⟨true, T.m11, fun _ a0 ha0 => ⟨.ref a0, rfl, rfl, rfl, dd, _, v, rfl, hdd, rfl, by show 2 ≤ sizeLine; decide, fun p hp => ?_⟩, fun h => nomatch h⟩⟩
      exact fin x dx B' H1 H' _ "trees" r v p hx hdx s hv eH (by decide) hdue hp
    · refine ⟨false, T.m20, fun h => (nomatch h), fun _ => ⟨false, T.m21, fun h => (nomatch h), fun _ => ⟨true, T.m22, fun _ a0 ha0 => ⟨.ref a0, rfl, rfl, rfl, dd, _, v, rfl, hdd, rfl, by show 2 ≤ sizeLine; decide, fun p hp => ?_⟩, fun h => nomatch h⟩⟩⟩
      exact fin x dx B' H1 H' _ "endless" (.int b) v p hx hdx s hv eH (by decide) hdue hp

end
end K20

namespace K20
open PySem PySem.Spec PyProof.Rows L2 Evl Ex Dx
open PySem.PyData (strOk)

section
variable {P : Program} {w : World} {K : PySem.W.Frag} {mg : Str → Option Value} {base : Heap} {f : Addr} {fd : FuncData}

abbrev L12 : List Str := ["word", "foot", "plain", "graft", "a", "ab", "b", "aab"]
def atomD (d : PyData) : Bool := match d with
  | .int i => decide (0 ≤ i) && decide (i ≤ 40)
  | .str s => L12.contains s
  | _ => false
def smD : Nat → PyData → Bool
  | 0 => atomD
  | n + 1 => fun d => atomD d || (match d with | .tuple ds => decide (ds.length ≤ 20) && ds.all (smD n) | _ => false)
theorem strF : ∀ s ∈ L12, strOk s = true ∧ strOk (s ++ ("b" : Str)) = true ∧ strOk (cutS s (some 1) none) = true ∧ strOk (("a" : Str) ++ s) = true ∧ s.length ≤ 100 ∧ (cutS s (some 1) none).length ≤ 100 := by decide +kernel
theorem intF : ∀ n : Fin 41, strOk (toString ((n : Nat) : Int) : Str) = true ∧ (toString ((n : Nat) : Int) : Str).length ≤ 100 := by decide +kernel
theorem atom_is {d : PyData} (h : atomD d = true) : (∃ i : Int, d = .int i ∧ 0 ≤ i ∧ i ≤ 40) ∨ ∃ s, d = .str s ∧ s ∈ L12 := by
  cases d with
  | int i =>
    have h' : (decide (0 ≤ i) && decide (i ≤ 40)) = true := h
    rw [Bool.and_eq_true, decide_eq_true_eq, decide_eq_true_eq] at h'
    exact .inl ⟨i, rfl, h'.1, h'.2⟩
  | str s => exact .inr ⟨s, rfl, List.contains_iff_mem.mp h⟩
  | _ => cases h
theorem atom_sm {d : PyData} (h : atomD d = true) (n : Nat) : Sm (n + 1) d := by
  rcases atom_is h with ⟨i, rfl, _⟩ | ⟨s, rfl, hs⟩
  · exact sm_int
  · exact sm_str (strF s hs).1
theorem smD_is {n : Nat} {d : PyData} (h : smD (n + 1) d = true) : atomD d = true ∨ ∃ ds, d = .tuple ds ∧ ds.length ≤ 20 ∧ ∀ x ∈ ds, smD n x = true := by
  cases d with
  | tuple ds =>
    have h2 : (decide (ds.length ≤ 20) && ds.all (smD n)) = true := h
    rw [Bool.and_eq_true, decide_eq_true_eq, List.all_eq_true] at h2
    exact .inr ⟨ds, rfl, h2.1, h2.2⟩
  | int i => exact .inl (by simpa [smD] using h)
  | str s => exact .inl (by simpa [smD] using h)
  | _ => exact .inl (by simpa [smD] using h)
theorem smD_sm : ∀ (n : Nat) (d : PyData), smD n d = true → Sm (n + 1) d
  | 0, d, h => atom_sm h 0
  | n + 1, d, h => by
    rcases smD_is h with h1 | ⟨ds, rfl, _, h2⟩
    · exact atom_sm h1 _
    · exact sm_tup fun x hx => smD_sm n x (h2 x hx)
theorem mem_cutL {α : Type} {x : α} {ds : List α} {lo hi : Option Int} (h : x ∈ cutL ds lo hi) : x ∈ ds := List.mem_of_mem_drop (List.mem_of_mem_take h)
theorem eqvT_nil : ∀ ds : List PyData, PyData.eqv (.tuple ds) (.tuple []) = ds.isEmpty
  | [] => by simp [PyData.eqv, PyData.eqvAll]
  | d :: ds => by simp [PyData.eqv, PyData.eqvAll]
/-- a test that may go either way; if it is true, c is -/
def EB (F : Fm) (tt : TT) (σ : L2.St) (B : Hp) (c : Bool) : Prop := ∀ B1, Ex B B1 → ∀ H, Ok F B1 H → ∀ Q : Bool → Hp → Prop, (∀ b B' H', Step F.M B1 H B' H' → Ok F B' H' → (b = true → c = true) → Q b H') → tt σ H Q
section
variable {F : Fm} {σ : L2.St} {B0 H0 B H : Hp} {t u : TT} {te : TE} {b c : Bool} {D : Ends} {tu tz tw : TS} {i : Int}
theorem eb_and (h1 : ETt F t σ B b) (h2 : b = true → EB F u σ B true) : EB F (tAnd t u) σ B b := fun B1 e0 H j Q q => h1 B1 e0 H j _ fun B2 H2 s2 j2 => by
  cases b with
  | true =>
    show u σ H2 Q
    exact h2 rfl B2 (e0.trans s2.bb) H2 j2 Q fun c B3 H3 s3 j3 _ => q c B3 H3 (s2.trans s3) j3 fun _ => rfl
  | false =>
    show Q false H2
    exact q false B2 H2 s2 j2 fun h => h
theorem eb_cmp {P : PV} (h : EV F te σ B P) (hp : ∀ v B1, P v B1 → ∃ b, v = .bl b) : EB F (tTest te) σ B true := fun B1 e0 H j Q q => h B1 e0 H j _ fun v B2 H2 s2 j2 g => by
  obtain ⟨b, rfl⟩ := hp v B2 g
  exact ⟨b, rfl, q b B2 H2 s2 j2 fun _ => rfl⟩
theorem eb_and' (h1 : ETt F t σ B true) (h2 : EB F u σ B true) : EB F (tAnd t u) σ B true := eb_and h1 fun _ => h2
theorem sv_ifB (a : At F B0 H0 B H) (h : EB F t σ B c) (h1 : c = true → ∀ B1 H1, Ex B B1 → At F B0 H0 B1 H1 → tu D σ H1) (h2 : ∀ B1 H1, Ex B B1 → At F B0 H0 B1 H1 → tw D σ H1) : tIfS t tu tw D σ H := h B (Ex.refl B) H a.j _ fun b B1 H1 s j hb => by
  cases b with
  | true =>
    show tu D σ H1
    exact h1 (hb rfl) B1 H1 s.bb (a.next s j)
  | false =>
    show tw D σ H1
    exact h2 B1 H1 s.bb (a.next s j)
theorem qv_whenB (a : At F B0 H0 B H) (h : EB F t σ B c) (h1 : c = true → ∀ B1 H1, Ex B B1 → At F B0 H0 B1 H1 → tu { D with nx := tz D } σ H1) (h2 : ∀ B1 H1, Ex B B1 → At F B0 H0 B1 H1 → tz D σ H1) : tSeq (tIfS t tu tNext) tz D σ H := sv_ifB (D := { D with nx := tz D }) a h h1 h2
theorem ed_neg {ta : TE} (h : ED F K ta σ B (.int i)) : ED F K (tUn (rU fun i => .int (-i)) ta) σ B (.int (-i)) := fun B1 e0 H j Q q => h B1 e0 H j _ fun v B2 H2 s2 j2 g => ⟨i, dd_int g, q _ B2 H2 s2 j2 (.int _)⟩
end
theorem lay_sh {n : Nat} {d : PyData} (h : smD (n + 1) d = true) (hn : n + 2 ≤ 64 := by omega) : SeqAt.shaped d = true := (smD_sm _ _ h).sh hn
def SW (n : Nat) (d : PyData) : Prop := Sm n d ∧ Wi d
theorem SW.le {n m : Nat} {d : PyData} (h : SW n d) (hn : n ≤ m) : SW m d := ⟨h.1.le hn, h.2⟩
theorem sw_tup {n : Nat} {ds : List PyData} (hl : ds.length ≤ 1000) (h : ∀ d ∈ ds, SW n d) : SW (n + 1) (.tuple ds) := ⟨sm_tup fun d hd => (h d hd).1, wi_tup hl fun d hd => (h d hd).2⟩
theorem sw_lst {n : Nat} {ds : List PyData} (hl : ds.length ≤ 1000) (h : ∀ d ∈ ds, SW n d) : SW (n + 1) (.list ds) := ⟨sm_lst fun d hd => (h d hd).1, wi_lst hl fun d hd => (h d hd).2⟩
theorem sw_int {n : Nat} {i : Int} : SW (n + 1) (.int i) := ⟨sm_int, wi_int⟩
theorem sw_bool {n : Nat} {b : Bool} : SW (n + 1) (.bool b) := ⟨sm_bool, wi_bool⟩
theorem sw_none {n : Nat} : SW (n + 1) .none := ⟨sm_none, wi_none⟩
theorem sw_str {n : Nat} {s : Str} (h : strOk s = true) : SW (n + 1) (.str s) := ⟨sm_str h, wi_str⟩
theorem smD_sw : ∀ (n : Nat) (d : PyData), smD n d = true → SW (n + 1) d
  | 0, d, h => by
    refine ⟨smD_sm 0 d h, ?_⟩
    rcases atom_is h with ⟨i, rfl, _⟩ | ⟨s, rfl, _⟩
    · exact wi_int
    · exact wi_str
  | n + 1, d, h => by
    refine ⟨smD_sm _ d h, ?_⟩
    rcases smD_is h with h1 | ⟨ds, rfl, hl, h2⟩
    · rcases atom_is h1 with ⟨i, rfl, _⟩ | ⟨s, rfl, _⟩
      · exact wi_int
      · exact wi_str
    · exact wi_tup (by omega) fun x hx => (smD_sw n x (h2 x hx)).2
theorem smD_any {m : Nat} {d : PyData} (h : smD m d = true) : atomD d = true ∨ ∃ m' ds, m = m' + 1 ∧ d = .tuple ds ∧ ds.length ≤ 20 ∧ ∀ x ∈ ds, smD m' x = true := by
  cases m with
  | zero => exact .inl h
  | succ m =>
    rcases smD_is h with h1 | ⟨ds, rfl, hl, h2⟩
    · exact .inl h1
    · exact .inr ⟨m, ds, rfl, rfl, hl, h2⟩
theorem eb_and2 {F : Fm} {σ : L2.St} {B : Hp} {t u : TT} {b c : Bool} (h1 : ETt F t σ B b) (h2 : b = true → EB F u σ B c) : EB F (tAnd t u) σ B (b && c) := fun B1 e0 H j Q q => h1 B1 e0 H j _ fun B2 H2 s2 j2 => by
  cases b with
  | true =>
    show u σ H2 Q
    exact h2 rfl B2 (e0.trans s2.bb) H2 j2 Q fun c' B3 H3 s3 j3 hc => q c' B3 H3 (s2.trans s3) j3 hc
  | false =>
    show Q false H2
    exact q false B2 H2 s2 j2 fun h => h
def spSpoil (K : PySem.W.Frag) (n m : Nat) : Sp := fun vs H Q _ => ∃ (p : Addr) (v : V) (B : Hp) (d : PyData), vs = [.ref p, v, .int (n : Nat)] ∧ Ok (Fm.box p) B H ∧ Dd K B v d ∧ smD m d = true ∧
  ∀ v' B' H' e, Step (fun a => a = p) B H B' H' → Ok (Fm.box p) B' H' → Dd K B' v' e → SW (m + 2) e → Q v' H'
def spSpX (K : PySem.W.Frag) : Nat → Nat → Sp
  | 0, _ => fun _ _ _ _ => False
  | n + 1, m => spSpoil K n m
abbrev s_law_spoilt : Stmt := topS 36
abbrev N_law_spoilt : List Str := ["box", "value", "deep", "at", "how"]
theorem sc_law_spoilt : FnScope N_law_spoilt ["box", "value", "deep"] (defScope s_law_spoilt) := ⟨rfl, rfl, rfl, by decide +kernel, rfl, by decide +kernel, by decide +kernel⟩
theorem ok_spoiltS (n m : Nat) (F : Fun K "_law_spoilt" "_law_spoilt" s_law_spoilt f fd) (T : TC K mg) (C_law_take : Callee P w K mg base "_law_take" 1 ["box", "many"] (spTake K)) (C_law_pick : Callee P w K mg base "_law_pick" 2 ["box", "some"] (spPick K)) (C_law_whole : Callee P w K mg base "_law_whole" 1 ["value"] (spInt K)) (CC : ∀ k, k ≤ 20 → Callee P w K mg base "_law_spoilt" (n + 3) ["box", "value", "deep"] (spSpX K n k)) (hn : n ≤ 10) (hm : m ≤ 20) : FnOk P w K mg base CX0 (n + 4) f fd ["box", "value", "deep"] (spSpoil K n m) := by
  refine F.ok sc_law_spoilt (fun vs H Q E h => ?_) (fun cdv A outer s H vs Q E hr h => ?_)
  · obtain ⟨p, v, B, d, rfl, _⟩ := h
    rfl
  · obtain ⟨p, v, B, d, rfl, ok, hv, hsd, q⟩ := h
    have hu64 : (A.deeper (envOfC "_law_spoilt" (defScope s_law_spoilt) s.heap.objs.size f cdv)).units + 64 < cLine := hr.units
    have a : At (Fm.box p) B H B H := At.start ok
    rcases smD_any hsd with hat | ⟨m, ds, rfl, rfl, hl, hall⟩
    · have C_law_spoilt := CC 0 (by decide)
      refine ⟨_, (pss_cons (ps_if (pt_val (pe_callB (call_isiK1 K) (by rfl) T.m_isinstance bt_isinstance (pa_cons (pv 1) (pa_cons (pe_bltn (v := .ty "tuple") (by rfl) T.m_tuple bt_tuple rfl) pa_nil)))) (pss_cons (ps_set (i := 3) sc_law_spoilt.nd rfl (Or.inl rfl) (pe_callC C_law_take (hr.mono (by omega)) rfl pass0 (pa_cons (pv 0) (pa_cons (pe_op (op_addK K) (pe_callB (call_lenK K) (by rfl) T.m_len bt_len (pa_cons (pv 1) pa_nil)) pe_int) pa_nil))))
        (pss_cons (ps_if (PW.pt (pw_and (pt_cmpR (op_neDK K hu64) (pv 1) (pe_tup pa_nil) (nomark _)) (pw_and (pt_cmpR op_gt (pv 2) pe_int (nomark _)) (pw_and1 (pt_cmpR op_gt (pe_callC C_law_take (hr.mono (by omega)) rfl pass0 (pa_cons (pv 0) (pa_cons pe_int pa_nil))) pe_int (nomark _)))))) (pss_cons (ps_set (i := 3) sc_law_spoilt.nd rfl (Or.inl rfl) (pe_op op_mod (pe_callTy call_int1 (by rfl) T.m_int bt_int (pa_cons (pv 3) pa_nil)) (pe_callB (call_lenK K) (by rfl) T.m_len bt_len (pa_cons (pv 1) pa_nil))))
        (pss_one (ps_ret (pe_op (op_addK K) (pe_op (op_addK K) (pe_slice (sl_anyK K) (pv 1) po_none (po_some (pv 3))) (pe_tup (pa_cons (pe_callC C_law_spoilt (hr.mono (by omega)) rfl pass0 (pa_cons (pv 0) (pa_cons (pe_ix (ix_seqK K) (pv 1) (pv 3) (fun _ _ => rfl)) (pa_cons (pe_op op_sub (pv 2) pe_int) pa_nil)))) pa_nil))) (pe_slice (sl_anyK K) (pv 1) (po_some (pe_op (op_addK K) (pv 3) pe_int)) po_none))))) pss_nil)
        (pss_cons (ps_set (i := 4) sc_law_spoilt.nd rfl (Or.inl rfl) (pe_callC C_law_take (hr.mono (by omega)) rfl pass0 (pa_cons (pv 0) (pa_cons pe_int pa_nil))))
        (pss_cons (ps_if (pt_cmpR (op_eqDK K hu64) (pv 4) pe_int (nomark _)) (pss_one (ps_ret (pe_callTy (call_list_ofK K) (by rfl) T.m_list bt_list (pa_cons (pv 1) pa_nil)))) pss_nil)
        (pss_cons (ps_if (pt_cmpR (op_eqDK K hu64) (pv 4) pe_int (nomark _)) (pss_one (ps_ret (pe_op (op_addK K) (pe_slice (sl_anyK K) (pv 1) po_none (po_some (pv 3))) (pe_slice (sl_anyK K) (pv 1) (po_some (pe_op (op_addK K) (pv 3) pe_int)) po_none)))) pss_nil)
        (pss_cons (ps_if (pt_cmpR (op_eqDK K hu64) (pv 4) pe_int (nomark _)) (pss_one (ps_ret (pe_op (op_addK K) (pe_op (op_addK K) (pe_slice (sl_anyK K) (pv 1) po_none (po_some (pv 3))) (pe_slice (sl_anyK K) (pv 1) (po_some (pv 3)) (po_some (pe_op (op_addK K) (pv 3) pe_int)))) (pe_slice (sl_anyK K) (pv 1) (po_some (pv 3)) po_none)))) pss_nil)
        (pss_cons (ps_if (pt_cmpR (op_eqDK K hu64) (pv 4) pe_int (nomark _)) (pss_one (ps_ret (pe_op (op_addK K) (pe_slice (sl_anyK K) (pv 1) (po_some (pv 3)) po_none) (pe_slice (sl_anyK K) (pv 1) po_none (po_some (pv 3)))))) pss_nil)
        (pss_cons (ps_if (pt_cmpR (op_eqDK K hu64) (pv 4) pe_int (nomark _)) (pss_one (ps_ret (pe_op (op_addK K) (pv 1) (pe_tup (pa_cons (pe_tup pa_nil) pa_nil))))) pss_nil)
        (pss_cons (ps_if (pt_cmpR (op_eqDK K hu64) (pv 4) pe_int (nomark _)) (pss_one (ps_ret (pe_op (op_addK K) (pe_op (op_addK K) (pe_slice (sl_anyK K) (pv 1) po_none (po_some (pv 3))) (pe_tup (pa_cons pe_int pa_nil))) (pe_slice (sl_anyK K) (pv 1) (po_some (pv 3)) po_none)))) pss_nil)
        (pss_cons (ps_if (pt_cmpR (op_eqDK K hu64) (pv 4) pe_int (nomark _)) (pss_one (ps_ret (pe_op (op_addK K) (pe_slice (sl_anyK K) (pv 1) po_none (po_some (pe_un un_neg pe_int))) (pe_slice (sl_anyK K) (pv 1) po_none (po_some pe_int))))) pss_nil)
        (pss_one (ps_ret pe_non)))))))))))) pss_nil)
        (pss_cons (ps_if (pt_val (pe_callB (call_isiK1 K) (by rfl) T.m_isinstance bt_isinstance (pa_cons (pv 1) (pa_cons (pe_bltn (v := .ty "str") (by rfl) T.m_str bt_str rfl) pa_nil)))) (pss_one (ps_ret (pe_callC C_law_pick (hr.mono (by omega)) rfl pass0 (pa_cons (pv 0) (pa_cons (pe_lst (pa_cons (pe_op (op_addK K) (pv 1) pe_str) (pa_cons pe_str (pa_cons (pe_slice (sl_anyK K) (pv 1) (po_some pe_int) po_none) (pa_cons (pe_op (op_addK K) pe_str (pv 1)) (pa_cons pe_int pa_nil)))))) pa_nil))))) pss_nil)
        (pss_cons (ps_if (pt_val (pe_callC C_law_whole (hr.mono (by omega)) rfl pass0 (pa_cons (pv 1) pa_nil))) (pss_one (ps_ret (pe_callC C_law_pick (hr.mono (by omega)) rfl pass0 (pa_cons (pv 0) (pa_cons (pe_lst (pa_cons (pe_op (op_addK K) (pv 1) pe_int) (pa_cons (pe_op op_sub (pv 1) pe_int) (pa_cons (pe_cmpR op_gt (pv 1) pe_int (nomark _)) (pa_cons (pe_op op_sub (pe_un un_neg pe_int) (pv 1)) (pa_cons (pe_tup (pa_cons (pv 1) pa_nil)) (pa_cons pe_non (pa_cons (pe_callTy call_str_int (by rfl) T.m_str bt_str (pa_cons (pv 1) pa_nil)) (pa_cons (pe_op (op_addK K) (pv 1) pe_int) pa_nil))))))))) pa_nil))))) pss_nil)
        (pss_one (ps_ret (pe_callC C_law_pick (hr.mono (by omega)) rfl pass0 (pa_cons (pv 0) (pa_cons (pe_lst (pa_cons pe_int (pa_cons (pe_tup pa_nil) (pa_cons pe_str pa_nil)))) pa_nil)))))))), ?_⟩
      have fin : ∀ e v B1 H1, At (Fm.box p) B H B1 H1 → Dd K B1 v e → SW (m + 2) e → Q v H1 := fun e v B1 H1 a1 h1 h2 => q v B1 H1 e a1.st a1.j h1 h2
      rcases atom_is hat with ⟨i, rfl, i0, i1⟩ | ⟨x, rfl, hx⟩
      · obtain rfl := dd_int hv
        refine qv_when (b := false) a (et_val (ed_isi (ed_var rfl (.int i)) (kit_tup _))) (fun h => nomatch h) (fun _ B1 H1 e1 a1 => ?_)
        refine qv_when (b := false) a1 (et_val (ed_isi (ed_var rfl (.int i)) (kit_str _))) (fun h => nomatch h) (fun _ B2 H2 e2 a2 => ?_)
        refine qv_when (b := true) a2 (et_val (ed_F (eds_cons (ed_var rfl (.int i)) eds_nil) ⟨_, rfl⟩ rfl)) (fun _ B3 H3 e3 a3 => ?_) (fun h => nomatch h)
        obtain ⟨f1, f2⟩ := intF ⟨i.toNat, by omega⟩
        have en : ((i.toNat : Nat) : Int) = i := by omega
        have f1' : strOk (toString i : Str) = true := by rw [← en]; exact f1
        have f2' : (toString i : Str).length ≤ 100 := by rw [← en]; exact f2
        refine sv_ret (P := fun v B => ∃ e, e ∈ ([.int (i + 1), .int (i - 1), .bool (decide (0 < i)), .int (-1 - i), .tuple [.int i], .none, .str (toString i), .int (i + 16)] : List PyData) ∧ Dd K B v e) a3 (ev_pick (d := .list [.int (i + 1), .int (i - 1), .bool (decide (0 < i)), .int (-1 - i), .tuple [.int i], .none, .str (toString i), .int (i + 16)]) rfl (ed_lst (eds_cons (ed_op (ed_var rfl (.int i)) ed_int rd_add) (eds_cons (ed_op (ed_var rfl (.int i)) ed_int rd_sub) (eds_cons (ed_op (ed_var rfl (.int i)) ed_int rd_gt) (eds_cons (ed_op (ed_neg ed_int) (ed_var rfl (.int i)) rd_sub) (eds_cons (ed_tup (eds_cons (ed_var rfl (.int i)) eds_nil)) (eds_cons ed_non (eds_cons (ev_cb (eds_cons (ed_var rfl (.int i)) eds_nil) (rc_str (Nat.lt_of_le_of_lt (Nat.log2_le_self _) (by omega)) (by omega))) (eds_cons (ed_op (ed_var rfl (.int i)) ed_int rd_add) eds_nil))))))))) (.inl rfl) (fun z => nomatch z) (by show 8 < 1073741824; decide)) fun v4 B4 H4 e4 a4 ⟨e, he, h4⟩ => fin e v4 B4 H4 a4 h4 ?_
        simp only [List.mem_cons, List.mem_nil_iff, or_false] at he
        rcases he with rfl | rfl | rfl | rfl | rfl | rfl | rfl | rfl
        · exact sw_int
        · exact sw_int
        · exact sw_bool
        · exact sw_int
        · exact (sw_tup (n := 1) (by show 1 ≤ 1000; decide) fun d hd => by rw [List.mem_singleton.mp hd]; exact sw_int).le (by omega)
        · exact sw_none
        · exact sw_str f1'
        · exact sw_int
      · obtain ⟨g1, g2, g3, g4, g5, g6⟩ := strF x hx
        refine qv_when (b := false) a (et_val (ed_isi (ed_var rfl hv) (kit_tup _))) (fun h => nomatch h) (fun _ B1 H1 e1 a1 => ?_)
        refine qv_when (b := true) a1 (et_val (ed_isi (ed_var rfl (hv.up e1)) (kit_str _))) (fun _ B2 H2 e2 a2 => ?_) (fun h => nomatch h)
        have hv2 := hv.up (e1.trans e2)
        have lb : ("b" : Str).length = 1 := by decide +kernel
        have la : ("a" : Str).length = 1 := by decide +kernel
        refine sv_ret (P := fun v B => ∃ e, e ∈ ([.str (x ++ "b"), .str "", .str (cutS x (some 1) none), .str ("a" ++ x), .int 0] : List PyData) ∧ Dd K B v e) a2 (ev_pick (d := .list [.str (x ++ "b"), .str "", .str (cutS x (some 1) none), .str ("a" ++ x), .int 0]) rfl (ed_lst (eds_cons (ed_op (ed_var rfl hv2) ed_str (rd_addS (by omega))) (eds_cons ed_str (eds_cons (ed_slS (ed_var rfl hv2) (eo_some (K := K) ed_int) eo_none (by omega)) (eds_cons (ed_op ed_str (ed_var rfl hv2) (rd_addS (by omega))) (eds_cons ed_int eds_nil)))))) (.inl rfl) (fun z => nomatch z) (by show 5 < 1073741824; decide)) fun v4 B4 H4 e4 a4 ⟨e, he, h4⟩ => fin e v4 B4 H4 a4 h4 ?_
        simp only [List.mem_cons, List.mem_nil_iff, or_false] at he
        rcases he with rfl | rfl | rfl | rfl | rfl
        · exact sw_str g2
        · exact sw_str (by decide +kernel)
        · exact sw_str g3
        · exact sw_str g4
        · exact sw_int
    · have C_law_spoilt := CC m (by omega)
      refine ⟨_, (pss_cons (ps_if (pt_val (pe_callB (call_isiK1 K) (by rfl) T.m_isinstance bt_isinstance (pa_cons (pv 1) (pa_cons (pe_bltn (v := .ty "tuple") (by rfl) T.m_tuple bt_tuple rfl) pa_nil)))) (pss_cons (ps_set (i := 3) sc_law_spoilt.nd rfl (Or.inl rfl) (pe_callC C_law_take (hr.mono (by omega)) rfl pass0 (pa_cons (pv 0) (pa_cons (pe_op (op_addK K) (pe_callB (call_lenK K) (by rfl) T.m_len bt_len (pa_cons (pv 1) pa_nil)) pe_int) pa_nil))))
        (pss_cons (ps_if (PW.pt (pw_and (pt_cmpR (op_neDK K hu64) (pv 1) (pe_tup pa_nil) (nomark _)) (pw_and (pt_cmpR op_gt (pv 2) pe_int (nomark _)) (pw_and1 (pt_cmpR op_gt (pe_callC C_law_take (hr.mono (by omega)) rfl pass0 (pa_cons (pv 0) (pa_cons pe_int pa_nil))) pe_int (nomark _)))))) (pss_cons (ps_set (i := 3) sc_law_spoilt.nd rfl (Or.inl rfl) (pe_op op_mod (pe_callTy call_int1 (by rfl) T.m_int bt_int (pa_cons (pv 3) pa_nil)) (pe_callB (call_lenK K) (by rfl) T.m_len bt_len (pa_cons (pv 1) pa_nil))))
        (pss_one (ps_ret (pe_op (op_addK K) (pe_op (op_addK K) (pe_slice (sl_anyK K) (pv 1) po_none (po_some (pv 3))) (pe_tup (pa_cons (pe_callC C_law_spoilt (hr.mono (by omega)) rfl pass0 (pa_cons (pv 0) (pa_cons (pe_ix (ix_seqK K) (pv 1) (pv 3) (fun _ _ => rfl)) (pa_cons (pe_op op_sub (pv 2) pe_int) pa_nil)))) pa_nil))) (pe_slice (sl_anyK K) (pv 1) (po_some (pe_op (op_addK K) (pv 3) pe_int)) po_none))))) pss_nil)
        (pss_cons (ps_set (i := 4) sc_law_spoilt.nd rfl (Or.inl rfl) (pe_callC C_law_take (hr.mono (by omega)) rfl pass0 (pa_cons (pv 0) (pa_cons pe_int pa_nil))))
        (pss_cons (ps_if (pt_cmpR (op_eqDK K hu64) (pv 4) pe_int (nomark _)) (pss_one (ps_ret (pe_callTy (call_list_ofK K) (by rfl) T.m_list bt_list (pa_cons (pv 1) pa_nil)))) pss_nil)
        (pss_cons (ps_if (pt_cmpR (op_eqDK K hu64) (pv 4) pe_int (nomark _)) (pss_one (ps_ret (pe_op (op_addK K) (pe_slice (sl_anyK K) (pv 1) po_none (po_some (pv 3))) (pe_slice (sl_anyK K) (pv 1) (po_some (pe_op (op_addK K) (pv 3) pe_int)) po_none)))) pss_nil)
        (pss_cons (ps_if (pt_cmpR (op_eqDK K hu64) (pv 4) pe_int (nomark _)) (pss_one (ps_ret (pe_op (op_addK K) (pe_op (op_addK K) (pe_slice (sl_anyK K) (pv 1) po_none (po_some (pv 3))) (pe_slice (sl_anyK K) (pv 1) (po_some (pv 3)) (po_some (pe_op (op_addK K) (pv 3) pe_int)))) (pe_slice (sl_anyK K) (pv 1) (po_some (pv 3)) po_none)))) pss_nil)
        (pss_cons (ps_if (pt_cmpR (op_eqDK K hu64) (pv 4) pe_int (nomark _)) (pss_one (ps_ret (pe_op (op_addK K) (pe_slice (sl_anyK K) (pv 1) (po_some (pv 3)) po_none) (pe_slice (sl_anyK K) (pv 1) po_none (po_some (pv 3)))))) pss_nil)
        (pss_cons (ps_if (pt_cmpR (op_eqDK K hu64) (pv 4) pe_int (nomark _)) (pss_one (ps_ret (pe_op (op_addK K) (pv 1) (pe_tup (pa_cons (pe_tup pa_nil) pa_nil))))) pss_nil)
        (pss_cons (ps_if (pt_cmpR (op_eqDK K hu64) (pv 4) pe_int (nomark _)) (pss_one (ps_ret (pe_op (op_addK K) (pe_op (op_addK K) (pe_slice (sl_anyK K) (pv 1) po_none (po_some (pv 3))) (pe_tup (pa_cons pe_int pa_nil))) (pe_slice (sl_anyK K) (pv 1) (po_some (pv 3)) po_none)))) pss_nil)
        (pss_cons (ps_if (pt_cmpR (op_eqDK K hu64) (pv 4) pe_int (nomark _)) (pss_one (ps_ret (pe_op (op_addK K) (pe_slice (sl_anyK K) (pv 1) po_none (po_some (pe_un un_neg pe_int))) (pe_slice (sl_anyK K) (pv 1) po_none (po_some pe_int))))) pss_nil)
        (pss_one (ps_ret pe_non)))))))))))) pss_nil)
        (pss_cons (ps_if (pt_val (pe_callB (call_isiK1 K) (by rfl) T.m_isinstance bt_isinstance (pa_cons (pv 1) (pa_cons (pe_bltn (v := .ty "str") (by rfl) T.m_str bt_str rfl) pa_nil)))) (pss_one (ps_ret (pe_callC C_law_pick (hr.mono (by omega)) rfl pass0 (pa_cons (pv 0) (pa_cons (pe_lst (pa_cons (pe_op (op_addK K) (pv 1) pe_str) (pa_cons pe_str (pa_cons (pe_slice (sl_anyK K) (pv 1) (po_some pe_int) po_none) (pa_cons (pe_op (op_addK K) pe_str (pv 1)) (pa_cons pe_int pa_nil)))))) pa_nil))))) pss_nil)
        (pss_cons (ps_if (pt_val (pe_callC C_law_whole (hr.mono (by omega)) rfl pass0 (pa_cons (pv 1) pa_nil))) (pss_one (ps_ret (pe_callC C_law_pick (hr.mono (by omega)) rfl pass0 (pa_cons (pv 0) (pa_cons (pe_lst (pa_cons (pe_op (op_addK K) (pv 1) pe_int) (pa_cons (pe_op op_sub (pv 1) pe_int) (pa_cons (pe_cmpR op_gt (pv 1) pe_int (nomark _)) (pa_cons (pe_op op_sub (pe_un un_neg pe_int) (pv 1)) (pa_cons (pe_tup (pa_cons (pv 1) pa_nil)) (pa_cons pe_non (pa_cons (pe_callTy call_str_int (by rfl) T.m_str bt_str (pa_cons (pv 1) pa_nil)) (pa_cons (pe_op (op_addK K) (pv 1) pe_int) pa_nil))))))))) pa_nil))))) pss_nil)
        (pss_one (ps_ret (pe_callC C_law_pick (hr.mono (by omega)) rfl pass0 (pa_cons (pv 0) (pa_cons (pe_lst (pa_cons pe_int (pa_cons (pe_tup pa_nil) (pa_cons pe_str pa_nil)))) pa_nil)))))))), ?_⟩
      have fin : ∀ e v B1 H1, At (Fm.box p) B H B1 H1 → Dd K B1 v e → SW (m + 1 + 2) e → Q v H1 := fun e v B1 H1 a1 h1 h2 => q v B1 H1 e a1.st a1.j h1 h2
      have hsm : ∀ y ∈ ds, SW (m + 2) y := fun y hy => (smD_sw m y (hall y hy)).le (by omega)
      have hsh : SeqAt.shaped (.tuple ds) = true ∨ True := .inr trivial
      have dr : ∀ (σ : L2.St) B2 (m : Int), σ[0]? = some (some (V.ref p)) → 0 < m → m < 1073741824 → EV (Fm.box p) (tCall (spTake K) [] E0 (tCons (tVar 0) (tCons (tC (.int m)) tNil))) σ B2 (fun v _ => ∃ i : Int, v = .int i ∧ 0 ≤ i ∧ i < m) := fun σ B2 m hσ h0 h1 => ev_take hσ ed_int h0 h1
      refine qv_when (b := true) a (et_val (ed_isi (ed_var rfl hv) (kit_tup _))) (fun _ B1 H1 e1 a1 => ?_) (fun h => nomatch h)
      refine qv_asg (P := fun v _ => ∃ i : Int, v = .int i ∧ 0 ≤ i ∧ i < (ds.length : Nat) + 1) a1 (ev_take rfl (ed_op (ev_cb (eds_cons (ed_var rfl (hv.up e1)) eds_nil) (rc_len (x := .tuple ds) rfl)) ed_int rd_add) (by show (0 : Int) < (ds.length : Nat) + 1; omega) (by show ((ds.length : Nat) : Int) + 1 < 1073741824; omega)) fun vat B2 H2 e2 a2 ⟨i, hi, i0, i1⟩ => ?_
      subst hi
      have eB2 := e1.trans e2
      refine qv_whenB (c := !ds.isEmpty && decide (0 < n)) a2 (eb_and2 (et_is (et_cmp (ed_op (ed_var rfl (hv.up eB2)) (ed_tup eds_nil) (rd_neD (lay_sh hsd (by omega)) rfl))) (by rw [eqvT_nil])) fun _ => eb_and (et_is (et_cmp (K := K) (ed_op (ed_var rfl (.int ((n : Nat) : Int))) ed_int rd_gt)) (by rw [Bool.eq_iff_iff, decide_eq_true_eq, decide_eq_true_eq]; omega)) fun _ => (eb_cmp (P := fun v _ => ∃ b, v = .bl b) (ev_op (P' := DD K (.int 0)) (dr _ _ 5 rfl (by decide) (by decide)) ed_int (fun _ _ _ _ h => h) ?_) fun v B h => h)) (fun hne B3 H3 e3 a3 => ?_) (fun B3 H3 e3 a3 => ?_)
      · intro B6 _ H6 u v j6 ⟨k, hu, _⟩ hv Q q
        exact ⟨k, 0, hu, dd_int hv, q _ B6 H6 (Step.refl j6.e) j6 ⟨_, rfl⟩⟩
      · rw [Bool.and_eq_true, decide_eq_true_eq] at hne
        obtain ⟨hne, hn0⟩ := hne
        obtain ⟨n, rfl⟩ : ∃ n', n = n' + 1 := ⟨n - 1, by omega⟩
        have hpos : 0 < ds.length := by
          cases ds with
          | nil => cases hne
          | cons _ _ => exact Nat.succ_pos _
        have eB3 := eB2.trans e3
        refine qv_asg a3 (ed_op (ev_cb (eds_cons (ed_var rfl (.int i)) eds_nil) rc_int1) (ev_cb (eds_cons (ed_var rfl (hv.up eB3)) eds_nil) (rc_len (x := .tuple ds) rfl)) (rd_mod (by show (0 : Int) < (ds.length : Nat); omega))) fun vj B4 H4 e4 a4 hj => ?_
        obtain rfl := dd_int hj
        have j0 : 0 ≤ i % ((ds.length : Nat) : Int) := Int.emod_nonneg i (by omega)
        have j1 : i % ((ds.length : Nat) : Int) < (ds.length : Nat) := Int.emod_lt_of_pos i (by omega)
        obtain ⟨j, hjd⟩ : ∃ j : Int, j = i % ((ds.length : Nat) : Int) := ⟨_, rfl⟩
        have hlj : lenD (.tuple ds) = ((ds.length : Nat) : Int) := rfl
        rw [hlj, ← hjd]
        rw [← hjd] at j0 j1
        obtain ⟨x, hx⟩ : ∃ x, ds[j.toNat]? = some x := ⟨_, List.getElem?_eq_getElem (by omega)⟩
        have hat : atI ds j = some x := by
          have h := atI_nat hx
          rw [show ((j.toNat : Nat) : Int) = j by omega] at h
          exact h
        have hxs := hall x (List.mem_of_getElem? hx)
        have eB4 := eB3.trans e4
        have hv4 := hv.up eB4
        have L1 := cutL_len ds none (some j)
        have L2 := cutL_len ds (some (j + 1)) none
        refine sv_ret (P := fun v B => ∃ e, Dd K B v (.tuple ((cutL ds none (some j) ++ [e]) ++ cutL ds (some (j + 1)) none)) ∧ SW (m + 2) e) a4 (ev_op (P := fun v B => ∃ e, Dd K B v (.tuple (cutL ds none (some j) ++ [e])) ∧ SW (m + 2) e) (P' := DD K (.tuple (cutL ds (some (j + 1)) none))) (ev_op (P := DD K (.tuple (cutL ds none (some j)))) (P' := fun v B => ∃ e, Dd K B v (.tuple [e]) ∧ SW (m + 2) e) (ed_slT (ed_var rfl hv4) eo_none (eo_some (K := K) (ed_var rfl (.int j)))) ?_ upc_dd ?_) (ed_slT (ed_var rfl hv4) (eo_some (K := K) (ed_op (ed_var rfl (.int j)) ed_int rd_add)) eo_none) (fun v B B' e ⟨x, h1, h2⟩ => ⟨x, h1.up e, h2⟩) ?_) fun v9 B9 H9 e9 a9 ⟨e, h9, hs9⟩ => fin _ v9 B9 H9 a9 h9 ?_
        · intro B5 e5 H5 j5 Q5 q5
          refine ⟨.ref p, rfl, ?_⟩
          refine (ed_op (F := Fm.box p) (K := K) (σ := [some (.ref p), some v, some (.int ((n + 1 : Nat) : Int)), some (.int j), none]) (B := B4) (ta := tVar 1) (tb := tVar 3) (ed_var (i := 1) rfl hv4) (ed_var (i := 3) rfl (.int j)) (rd_ixT hat)) B5 e5 H5 j5 _ fun vx B6 H6 s6 j6 g6 => ?_
          refine ⟨_, rfl, ((n + 1 : Nat) : Int), 1, rfl, rfl, ?_⟩
          refine ⟨p, vx, B6, x, ?_, j6, g6, hxs, fun v' B7 H7 e7 s7 j7 g7 hs7 => ⟨by show 1 ≤ sizeLine; decide, fun p' hp' => q5 (.ref p') _ _ ((s6.trans s7).trans (Step.alloc j7.e hp')) (j7.alloc hp') ⟨e7, .tup (st_of upd_same) (by show 1 ≤ sizeLine; decide) (.cons (g7.up (Ex.new (fresh_back j7.e hp'))) .nil), hs7⟩⟩⟩
          show [V.ref p, vx, V.int (((n + 1 : Nat) : Int) - 1)] = [V.ref p, vx, V.int ((n : Nat) : Int)]
          rw [show (((n + 1 : Nat) : Int) - 1) = ((n : Nat) : Int) by omega]
        · intro B5 e5 H5 u w5 j5 hu ⟨e, h1, h2⟩ Q5 q5
          exact rd_addT (F := Fm.box p) (K := K) (B := B5) (by simp only [List.length_cons, List.length_nil]; omega) B5 (Ex.refl B5) H5 u w5 j5 hu h1 Q5 fun z B6 H6 s6 j6 g6 => q5 z B6 H6 s6 j6 ⟨e, g6, h2⟩
        · intro B5 e5 H5 u w5 j5 ⟨e, h1, h2⟩ hw Q5 q5
          exact rd_addT (F := Fm.box p) (K := K) (B := B5) (by simp only [List.length_append, List.length_cons, List.length_nil]; omega) B5 (Ex.refl B5) H5 u w5 j5 h1 hw Q5 fun z B6 H6 s6 j6 g6 => q5 z B6 H6 s6 j6 ⟨e, g6, h2⟩
        · refine sw_tup (by simp only [List.length_append, List.length_cons, List.length_nil]; omega) fun y hy => ?_
          simp only [List.mem_append, List.mem_cons, List.mem_nil_iff, or_false] at hy
          rcases hy with (hy | rfl) | hy
          · exact hsm y (mem_cutL hy)
          · exact hs9
          · exact hsm y (mem_cutL hy)
      have eB3 := eB2.trans e3
      refine qv_asg (P := fun v _ => ∃ h : Int, v = .int h ∧ 0 ≤ h ∧ h < 8) a3 (dr _ _ 8 rfl (by decide) (by decide)) fun vh B10 H10 e10 a10 ⟨h, hh, _, _⟩ => ?_
      subst hh
      have eB10 := eB3.trans e10
      refine qv_when (b := PyData.eqv (.int h) (.int 0)) a10 (et_cmp (ed_op (ed_var rfl (.int h)) ed_int (rd_eqD rfl rfl))) (fun _ B11' H11' e' a' => ?_) (fun _ B11 H11 e11 a11 => ?_)
      · have hv' := hv.up (eB10.trans e')
        refine sv_ret (P := DD K (.list ds)) a' (ev_cb (eds_cons (ed_var rfl hv') eds_nil) rc_lstT) fun v9 B9 H9 e9 a9 h9 => fin _ v9 B9 H9 a9 h9 ?_
        exact (sw_lst (by omega) fun y hy => hsm y hy).le (by omega)
      have eB11 := eB10.trans e11
      refine qv_when (b := PyData.eqv (.int h) (.int 1)) a11 (et_cmp (ed_op (ed_var rfl (.int h)) ed_int (rd_eqD rfl rfl))) (fun _ B12' H12' e' a' => ?_) (fun _ B12 H12 e12 a12 => ?_)
      · have hv' := hv.up (eB11.trans e')
        refine sv_ret (P := DD K (.tuple (cutL ds none (some i) ++ cutL ds (some (i + 1)) none))) a' (ed_op (ed_slT (ed_var rfl hv') eo_none (eo_some (K := K) (ed_var rfl (.int i)))) (ed_slT (ed_var rfl hv') (eo_some (K := K) (ed_op (ed_var rfl (.int i)) ed_int rd_add)) eo_none) (rd_addT (by have h1 := cutL_len ds none (some i); have h2 := cutL_len ds (some (i + 1)) none; have h3 := cutL_len ds (some i) none; have h4 := cutL_len ds (some i) (some (i + 1)); have h5 := cutL_len ds none (some (-1)); have h6 := cutL_len ds none (some 1); (try simp only [List.length_append, List.length_cons, List.length_nil]); omega))) fun v9 B9 H9 e9 a9 h9 => fin _ v9 B9 H9 a9 h9 ?_
        refine sw_tup (by have h1 := cutL_len ds none (some i); have h2 := cutL_len ds (some (i + 1)) none; have h3 := cutL_len ds (some i) none; have h4 := cutL_len ds (some i) (some (i + 1)); have h5 := cutL_len ds none (some (-1)); have h6 := cutL_len ds none (some 1); (try simp only [List.length_append, List.length_cons, List.length_nil]); omega) fun y hy => ?_
        simp only [List.mem_append, List.mem_cons, List.mem_nil_iff, or_false] at hy
        rcases hy with hy | hy <;> exact hsm y (mem_cutL hy)
      have eB12 := eB11.trans e12
      refine qv_when (b := PyData.eqv (.int h) (.int 2)) a12 (et_cmp (ed_op (ed_var rfl (.int h)) ed_int (rd_eqD rfl rfl))) (fun _ B13' H13' e' a' => ?_) (fun _ B13 H13 e13 a13 => ?_)
      · have hv' := hv.up (eB12.trans e')
        refine sv_ret (P := DD K (.tuple ((cutL ds none (some i) ++ cutL ds (some i) (some (i + 1))) ++ cutL ds (some i) none))) a' (ed_op (ed_op (ed_slT (ed_var rfl hv') eo_none (eo_some (K := K) (ed_var rfl (.int i)))) (ed_slT (ed_var rfl hv') (eo_some (K := K) (ed_var rfl (.int i))) (eo_some (K := K) (ed_op (ed_var rfl (.int i)) ed_int rd_add))) (rd_addT (by have h1 := cutL_len ds none (some i); have h2 := cutL_len ds (some (i + 1)) none; have h3 := cutL_len ds (some i) none; have h4 := cutL_len ds (some i) (some (i + 1)); have h5 := cutL_len ds none (some (-1)); have h6 := cutL_len ds none (some 1); (try simp only [List.length_append, List.length_cons, List.length_nil]); omega))) (ed_slT (ed_var rfl hv') (eo_some (K := K) (ed_var rfl (.int i))) eo_none) (rd_addT (by have h1 := cutL_len ds none (some i); have h2 := cutL_len ds (some (i + 1)) none; have h3 := cutL_len ds (some i) none; have h4 := cutL_len ds (some i) (some (i + 1)); have h5 := cutL_len ds none (some (-1)); have h6 := cutL_len ds none (some 1); (try simp only [List.length_append, List.length_cons, List.length_nil]); omega))) fun v9 B9 H9 e9 a9 h9 => fin _ v9 B9 H9 a9 h9 ?_
        refine sw_tup (by have h1 := cutL_len ds none (some i); have h2 := cutL_len ds (some (i + 1)) none; have h3 := cutL_len ds (some i) none; have h4 := cutL_len ds (some i) (some (i + 1)); have h5 := cutL_len ds none (some (-1)); have h6 := cutL_len ds none (some 1); (try simp only [List.length_append, List.length_cons, List.length_nil]); omega) fun y hy => ?_
        simp only [List.mem_append, List.mem_cons, List.mem_nil_iff, or_false] at hy
        rcases hy with (hy | hy) | hy <;> exact hsm y (mem_cutL hy)
      have eB13 := eB12.trans e13
      refine qv_when (b := PyData.eqv (.int h) (.int 3)) a13 (et_cmp (ed_op (ed_var rfl (.int h)) ed_int (rd_eqD rfl rfl))) (fun _ B14' H14' e' a' => ?_) (fun _ B14 H14 e14 a14 => ?_)
      · have hv' := hv.up (eB13.trans e')
        refine sv_ret (P := DD K (.tuple (cutL ds (some i) none ++ cutL ds none (some i)))) a' (ed_op (ed_slT (ed_var rfl hv') (eo_some (K := K) (ed_var rfl (.int i))) eo_none) (ed_slT (ed_var rfl hv') eo_none (eo_some (K := K) (ed_var rfl (.int i)))) (rd_addT (by have h1 := cutL_len ds none (some i); have h2 := cutL_len ds (some (i + 1)) none; have h3 := cutL_len ds (some i) none; have h4 := cutL_len ds (some i) (some (i + 1)); have h5 := cutL_len ds none (some (-1)); have h6 := cutL_len ds none (some 1); (try simp only [List.length_append, List.length_cons, List.length_nil]); omega))) fun v9 B9 H9 e9 a9 h9 => fin _ v9 B9 H9 a9 h9 ?_
        refine sw_tup (by have h1 := cutL_len ds none (some i); have h2 := cutL_len ds (some (i + 1)) none; have h3 := cutL_len ds (some i) none; have h4 := cutL_len ds (some i) (some (i + 1)); have h5 := cutL_len ds none (some (-1)); have h6 := cutL_len ds none (some 1); (try simp only [List.length_append, List.length_cons, List.length_nil]); omega) fun y hy => ?_
        simp only [List.mem_append, List.mem_cons, List.mem_nil_iff, or_false] at hy
        rcases hy with hy | hy <;> exact hsm y (mem_cutL hy)
      have eB14 := eB13.trans e14
      refine qv_when (b := PyData.eqv (.int h) (.int 4)) a14 (et_cmp (ed_op (ed_var rfl (.int h)) ed_int (rd_eqD rfl rfl))) (fun _ B15' H15' e' a' => ?_) (fun _ B15 H15 e15 a15 => ?_)
      · have hv' := hv.up (eB14.trans e')
        refine sv_ret (P := DD K (.tuple (ds ++ [.tuple []]))) a' (ed_op (ed_var rfl hv') (ed_tup (eds_cons (ed_tup eds_nil) eds_nil)) (rd_addT (by have h1 := cutL_len ds none (some i); have h2 := cutL_len ds (some (i + 1)) none; have h3 := cutL_len ds (some i) none; have h4 := cutL_len ds (some i) (some (i + 1)); have h5 := cutL_len ds none (some (-1)); have h6 := cutL_len ds none (some 1); (try simp only [List.length_append, List.length_cons, List.length_nil]); omega))) fun v9 B9 H9 e9 a9 h9 => fin _ v9 B9 H9 a9 h9 ?_
        refine sw_tup (by have h1 := cutL_len ds none (some i); have h2 := cutL_len ds (some (i + 1)) none; have h3 := cutL_len ds (some i) none; have h4 := cutL_len ds (some i) (some (i + 1)); have h5 := cutL_len ds none (some (-1)); have h6 := cutL_len ds none (some 1); (try simp only [List.length_append, List.length_cons, List.length_nil]); omega) fun y hy => ?_
        simp only [List.mem_append, List.mem_cons, List.mem_nil_iff, or_false] at hy
        rcases hy with hy | rfl
        · exact hsm y hy
        · exact (sw_tup (n := 0) (ds := []) (by show 0 ≤ 1000; decide) fun z hz => nomatch hz).le (by omega)
      have eB15 := eB14.trans e15
      refine qv_when (b := PyData.eqv (.int h) (.int 5)) a15 (et_cmp (ed_op (ed_var rfl (.int h)) ed_int (rd_eqD rfl rfl))) (fun _ B16' H16' e' a' => ?_) (fun _ B16 H16 e16 a16 => ?_)
      · have hv' := hv.up (eB15.trans e')
        refine sv_ret (P := DD K (.tuple ((cutL ds none (some i) ++ [.int 0]) ++ cutL ds (some i) none))) a' (ed_op (ed_op (ed_slT (ed_var rfl hv') eo_none (eo_some (K := K) (ed_var rfl (.int i)))) (ed_tup (eds_cons ed_int eds_nil)) (rd_addT (by have h1 := cutL_len ds none (some i); have h2 := cutL_len ds (some (i + 1)) none; have h3 := cutL_len ds (some i) none; have h4 := cutL_len ds (some i) (some (i + 1)); have h5 := cutL_len ds none (some (-1)); have h6 := cutL_len ds none (some 1); (try simp only [List.length_append, List.length_cons, List.length_nil]); omega))) (ed_slT (ed_var rfl hv') (eo_some (K := K) (ed_var rfl (.int i))) eo_none) (rd_addT (by have h1 := cutL_len ds none (some i); have h2 := cutL_len ds (some (i + 1)) none; have h3 := cutL_len ds (some i) none; have h4 := cutL_len ds (some i) (some (i + 1)); have h5 := cutL_len ds none (some (-1)); have h6 := cutL_len ds none (some 1); (try simp only [List.length_append, List.length_cons, List.length_nil]); omega))) fun v9 B9 H9 e9 a9 h9 => fin _ v9 B9 H9 a9 h9 ?_
        refine sw_tup (by have h1 := cutL_len ds none (some i); have h2 := cutL_len ds (some (i + 1)) none; have h3 := cutL_len ds (some i) none; have h4 := cutL_len ds (some i) (some (i + 1)); have h5 := cutL_len ds none (some (-1)); have h6 := cutL_len ds none (some 1); (try simp only [List.length_append, List.length_cons, List.length_nil]); omega) fun y hy => ?_
        simp only [List.mem_append, List.mem_cons, List.mem_nil_iff, or_false] at hy
        rcases hy with (hy | rfl) | hy
        · exact hsm y (mem_cutL hy)
        · exact sw_int
        · exact hsm y (mem_cutL hy)
      have eB16 := eB15.trans e16
      refine qv_when (b := PyData.eqv (.int h) (.int 6)) a16 (et_cmp (ed_op (ed_var rfl (.int h)) ed_int (rd_eqD rfl rfl))) (fun _ B17' H17' e' a' => ?_) (fun _ B17 H17 e17 a17 => ?_)
      · have hv' := hv.up (eB16.trans e')
        refine sv_ret (P := DD K (.tuple (cutL ds none (some (-1)) ++ cutL ds none (some 1)))) a' (ed_op (ed_slT (ed_var rfl hv') eo_none (eo_some (K := K) (ed_neg ed_int))) (ed_slT (ed_var rfl hv') eo_none (eo_some (K := K) ed_int)) (rd_addT (by have h1 := cutL_len ds none (some i); have h2 := cutL_len ds (some (i + 1)) none; have h3 := cutL_len ds (some i) none; have h4 := cutL_len ds (some i) (some (i + 1)); have h5 := cutL_len ds none (some (-1)); have h6 := cutL_len ds none (some 1); (try simp only [List.length_append, List.length_cons, List.length_nil]); omega))) fun v9 B9 H9 e9 a9 h9 => fin _ v9 B9 H9 a9 h9 ?_
        refine sw_tup (by have h1 := cutL_len ds none (some i); have h2 := cutL_len ds (some (i + 1)) none; have h3 := cutL_len ds (some i) none; have h4 := cutL_len ds (some i) (some (i + 1)); have h5 := cutL_len ds none (some (-1)); have h6 := cutL_len ds none (some 1); (try simp only [List.length_append, List.length_cons, List.length_nil]); omega) fun y hy => ?_
        simp only [List.mem_append, List.mem_cons, List.mem_nil_iff, or_false] at hy
        rcases hy with hy | hy <;> exact hsm y (mem_cutL hy)
      have eB17 := eB16.trans e17
      exact sv_ret (P := DD K .none) a17 ed_non fun v9 B9 H9 e9 a9 h9 => fin _ v9 B9 H9 a9 h9 sw_none
theorem call_spoilt {f : Addr} (d : DFact K "_law_spoilt" s_law_spoilt f) (T : TC K mg) {h : Heap} (X : K.In h) (G : h.Ns mainGlobals mg) (C_law_take : Callee P w K mg base "_law_take" 1 ["box", "many"] (spTake K)) (C_law_pick : Callee P w K mg base "_law_pick" 2 ["box", "some"] (spPick K)) (C_law_whole : Callee P w K mg base "_law_whole" 1 ["value"] (spInt K)) : ∀ n m : Nat, n ≤ 10 → m ≤ 20 → Callee P w K mg base "_law_spoilt" (n + 3) ["box", "value", "deep"] (spSpX K n m)
  | 0, m, _, _ => d.callee X G (fun fd F => F.ok sc_law_spoilt (fun vs H Q E h => h.elim) fun cdv A outer s H vs Q E hr h => h.elim) (fun fd F => F.binds fun _ _ _ _ _ _ us hl => match us, hl with | [_, _, _], _ => rfl)
  | n + 1, m, hn, hm => d.callee X G (fun fd F => ok_spoiltS n m F T C_law_take C_law_pick C_law_whole (fun k hk => call_spoilt d T X G C_law_take C_law_pick C_law_whole n k (by omega) hk) (by omega) hm) (fun fd F => F.binds fun _ _ _ _ _ _ us hl => match us, hl with | [_, _, _], _ => rfl)
end
end K20

namespace K20
open PySem PySem.Spec PyProof.Rows L2 Evl Ex Dx
open PySem.PyData (strOk)

section
variable {P : Program} {w : World} {K : PySem.W.Frag} {mg : Str → Option Value} {base : Heap} {f : Addr} {fd : FuncData}

/-! ### lists that grow while draws are made -/
section
variable {F : Fm} {B1 H1 B' H' B5 H5 : Hp} {fa : Addr} {acc : List V} {ds : List PyData}
theorem cq_set {acc' : List V} {ds' : List PyData} (hD : H1 fa = none) (k1 : Ok F B1 H1) (s : Step F.M B1 H1 B' H') (k : Ok F B' H') (hb : B' fa = none) (ha : DdAll K B' acc' ds') : Cq F K B1 H1 fa ds' (upd H' fa (.lst acc')) := by
  have nm : ¬ F.M fa := fun m => F.lv H1 fa k1.j m hD
  have s2 : Step F.M B1 H1 B' (upd H' fa (.lst acc')) := ⟨s.bb, fun a o h => by rw [upd_ne (ne_of_none h hb)]; exact k.e a o h, fun a o n h => by rw [upd_ne (ne_of_none h hD)]; exact s.keep a o n h, s.sep, fun a n => by
    have ha : a ≠ fa := fun z => n (z ▸ hD)
    rw [upd_ne ha]
    exact s.live a n⟩
  have j2 : F.J (upd H' fa (.lst acc')) := F.fr H' fa _ k.j nm
  exact ⟨B', acc', s2, k1.next s2 j2, hb, upd_same, ha⟩
/-- opened: the list stands as data for a while -/
theorem cq_open (hD : H1 fa = none) (k1 : Ok F B1 H1) (k : Ok F B' H') (hb : B' fa = none) (hd : H' fa = some (.lst acc)) (ha : DdAll K B' acc ds) (hl : ds.length ≤ 16777216) : Ok F (upd B' fa (.lst acc)) H' ∧ Dd K (upd B' fa (.lst acc)) (.ref fa) (.list ds) := by
  have nm : ¬ F.M fa := fun m => F.lv H1 fa k1.j m hD
  refine ⟨⟨fun a o h => ?_, k.j, fun a m => ?_⟩, .lst upd_same (by rw [ha.len, sizeLine_eq]; exact hl) (ha.up (Ex.new hb))⟩
  · by_cases e : a = fa
    · subst e
      rw [upd_same] at h
      rw [hd]
      exact h
    · rw [upd_ne e] at h
      exact k.e a o h
  · have e : a ≠ fa := fun z => nm (z ▸ m)
    rw [upd_ne e]
    exact k.av a m
def del1 (B : Hp) (fa : Addr) : Hp := fun a => if a = fa then none else B a
theorem del1_ne {B : Hp} {a : Addr} (h : a ≠ fa) : del1 B fa a = B a := by
  unfold del1
  rw [if_neg h]
theorem del1_same {B : Hp} : del1 B fa fa = none := by
  unfold del1
  rw [if_pos rfl]
theorem del1_sub {B : Hp} {a : Addr} {o : HO} (h : del1 B fa a = some o) : a ≠ fa ∧ B a = some o := by
  unfold del1 at h
  split at h
  · cases h
  · rename_i n
    exact ⟨n, h⟩
/-- closed again -/
theorem cq_close (hD : H1 fa = none) (k1 : Ok F B1 H1) (s : Step F.M B1 H1 B' H') (hb : B' fa = none) (hd : H' fa = some (.lst acc)) (s5 : Step F.M (upd B' fa (.lst acc)) H' B5 H5) (k5 : Ok F B5 H5) :
    Step F.M B1 H1 (del1 B5 fa) H5 ∧ Ok F (del1 B5 fa) H5 ∧ Ex B' (del1 B5 fa) ∧ H5 fa = some (.lst acc) := by
  have nm : ¬ F.M fa := fun m => F.lv H1 fa k1.j m hD
  have eB : Ex B' (del1 B5 fa) := fun a o h => by
    have n : a ≠ fa := ne_of_none h hb
    rw [del1_ne n]
    exact s5.bb a o (by rw [upd_ne n]; exact h)
  have eH : Ex (del1 B5 fa) H5 := fun a o h => k5.e a o (del1_sub h).2
  have st : Step F.M B1 H1 (del1 B5 fa) H5 := ⟨fun a o h => eB a o (s.bb a o h), eH, fun a o n h => s5.keep a o n (s.keep a o n h), fun a h n => by
    have na : a ≠ fa := fun z => n (z ▸ hD)
    rw [del1_ne na]
    exact s5.sep a (by rw [upd_ne na]; exact s.sep a h n) (s.live a n), fun a n => s5.live a (s.live a n)⟩
  exact ⟨st, k1.next st k5.j, eB, s5.keep fa _ nm hd⟩
/-- flat data have no list within -/
theorem flat_del {B : Hp} : ∀ {vs : List V} {ds : List PyData}, DdAll K B vs ds → ds.all flatD = true → DdAll K (del1 B fa) vs ds
  | _, _, .nil, _ => .nil
  | _, _, .cons a t, h => by
    rw [List.all_cons, Bool.and_eq_true] at h
    refine .cons ?_ (flat_del t h.2)
    cases a with
    | non => exact .non
    | bl b => exact .bl b
    | int i => exact .int i
    | str x hl => exact .str x hl
    | lst _ _ _ => cases h.1
    | tup _ _ _ => cases h.1
theorem tup_del {B : Hp} {v : V} {xs : List PyData} (h : Dd K B v (.tuple xs)) (hf : B fa = some (.lst acc)) (fl : xs.all flatD = true) : Dd K (del1 B fa) v (.tuple xs) := by
  obtain ⟨a, ys, rfl, h1, h2, h3⟩ := dd_tup h
  refine .tup ?_ h2 (flat_del h3 fl)
  rcases h1 with (h1 | ⟨o, h1⟩) | h1
  · have n : a ≠ fa := fun z => by rw [z, hf] at h1; cases h1
    exact .inl (.inl (by rw [del1_ne n]; exact h1))
  · have n : a ≠ fa := fun z => by rw [z, hf] at h1; cases h1
    exact .inl (.inr ⟨o, by rw [del1_ne n]; exact h1⟩)
  · exact .inr h1
end
/-! ### _law_shuffled -/
def spShuf (K : PySem.W.Frag) : Sp := fun vs H Q _ => ∃ (p : Addr) (v : V) (B : Hp) (rs : List PyData), vs = [.ref p, v] ∧ Ok (Fm.box p) B H ∧ Dd K B v (.list rs) ∧ rs.length ≤ 100 ∧
  ∀ v' B' H' (rs' : List PyData), Step (fun a => a = p) B H B' H' → Ok (Fm.box p) B' H' → Dd K B' v' (.list rs') → rs'.Perm rs → Q v' H'
theorem DdAll.ins {H : Hp} {vs : List V} {ds : List PyData} {v : V} {d : PyData} (h : DdAll K H vs ds) (g : Dd K H v d) (n : Nat) : DdAll K H (vs.take n ++ [v] ++ vs.drop n) (ds.take n ++ [d] ++ ds.drop n) := ((h.take n).snoc g).app (h.drop n)
theorem ins_perm (n : Nat) (l : List PyData) (d : PyData) : (l.take n ++ [d] ++ l.drop n).Perm (l ++ [d]) := by
  have h1 : (l.take n ++ [d] ++ l.drop n).Perm (d :: (l.take n ++ l.drop n)) := by
    rw [List.append_assoc]
    exact List.perm_middle
  rw [List.take_append_drop] at h1
  exact h1.trans (List.perm_append_singleton d l).symm

abbrev s_law_shuffled : Stmt := topS 37
abbrev N_law_shuffled : List Str := ["box", "some", "found", "one"]
theorem sc_law_shuffled : FnScope N_law_shuffled ["box", "some"] (defScope s_law_shuffled) := ⟨rfl, rfl, rfl, by decide +kernel, rfl, by decide +kernel, by decide +kernel⟩
theorem ok_shuffled (F : Fun K "_law_shuffled" "_law_shuffled" s_law_shuffled f fd) (T : TC K mg) (C_law_take : Callee P w K mg base "_law_take" 1 ["box", "many"] (spTake K)) : FnOk P w K mg base CX0 2 f fd ["box", "some"] (spShuf K) := by
  refine F.ok sc_law_shuffled (fun vs H Q E h => ?_) (fun cdv A outer s H vs Q E hr h => ?_)
  · obtain ⟨p, v, B, rs, rfl, _⟩ := h
    rfl
  · obtain ⟨p, v, B, rs, rfl, ok, hv, hl, q⟩ := h
    obtain ⟨l, xs, rfl, h1, _, hx⟩ := dd_lst hv
    refine ⟨_, (pss_cons (ps_set (i := 2) sc_law_shuffled.nd rfl (Or.inl rfl) (pe_lst pa_nil))
      (pss_cons (ps_for PassesOwn.never rfl (pi_seqK K (pv 1)) (pg_name (i := 3) sc_law_shuffled.nd rfl (Or.inl rfl)) (pss_one (ps_expr (pe_bm PySem.F.plainAttrs_list PySem.F.slot_list_insert PySem.F.type_list_insert mt_insert (pv 2) (pa_cons (pe_callC C_law_take (hr.mono (by decide)) rfl pass0 (pa_cons (pv 0) (pa_cons (pe_op (op_addK K) (pe_callB (call_lenK K) (by rfl) T.m_len bt_len (pa_cons (pv 2) pa_nil)) pe_int) pa_nil))) (pa_cons (pv 3) pa_nil))))))
      (pss_one (ps_ret (pv 2))))), ?_⟩
    refine ⟨Nat.zero_le _, fun fa hfa => ?_⟩
    have nfp : fa ≠ p := fun z => (Fm.box p).lv H p ok.j rfl (z ▸ hfa)
    refine ⟨.ref l, rfl, l, rfl, .inl ⟨⟨xs, ex_l (ok.e.trans (Ex.new hfa)) (sq_of h1)⟩, for_list (K := K) (xs := xs) (fun i σ' H' => (∃ o, σ' = [some (.ref p), some (.ref l), some (.ref fa), o]) ∧ ∃ rs', rs'.Perm (rs.take i) ∧ Cq (Fm.box p) K B H fa rs' H') ⟨⟨none, rfl⟩, [], List.Perm.refl _, cq_start ok hfa⟩ (fun i σ' H' _ ⟨_, rs', _, B', acc, s', k', _⟩ => ex_l (s'.bb.trans k'.e) (sq_of h1)) (fun i x σ' H' hi ⟨⟨o, ho⟩, rs', hp, B', acc, s', k', hb, hd, ha⟩ => ?_) (fun σ' H' ⟨⟨o, ho⟩, rs', hp, c⟩ => ?_)⟩⟩
    · subst ho
      obtain ⟨r, hr1, hr2⟩ := hx.getv hi
      have hlt : i < rs.length := (List.getElem?_eq_some_iff.mp hr1).1
      have hlen : rs'.length = i := by
        rw [hp.length_eq, List.length_take]
        omega
      have hacc : acc.length = i := by rw [ha.len, hlen]
      refine ⟨.ref fa, rfl, .inl ⟨rfl, _, sq_of hd⟩, ?_⟩
      refine ⟨.ref p, rfl, ⟨.ref fa, rfl, ⟨.ref fa, acc.length, rfl, .inl ⟨_, sq_of hd, rfl⟩, .inl ⟨_, 1, rfl, rfl, ?_⟩⟩⟩⟩
      refine ⟨p, [.int ((acc.length : Nat) + 1)], B', [.int ((acc.length : Nat) + 1)], rfl, k', .cons (.int _) .nil, ⟨_, rfl, by omega, by omega⟩, fun vj B4 H4 s4 k4 ⟨j, m, em, ej, j0, j1⟩ => ?_⟩
      cases em
      subst ej
      refine ⟨x, rfl, ?_⟩
      have hd4 : H4 fa = some (.lst acc) := s4.keep fa _ nfp hd
      refine ⟨fa, acc, j, x, rfl, rfl, hd4, by rw [sizeLine_eq]; omega, j0, by omega, ?_⟩
      have hb4 : B4 fa = none := s4.sep fa hb (by rw [hd]; exact fun z => nomatch z)
      have c := cq_set (acc' := acc.take j.toNat ++ [x] ++ acc.drop j.toNat) (ds' := rs'.take j.toNat ++ [r] ++ rs'.drop j.toNat) hfa ok (s'.trans s4) k4 hb4 (DdAll.ins (ha.up s4.bb) (hr2.up (s'.bb.trans s4.bb)) j.toNat)
      refine ⟨⟨_, rfl⟩, _, ?_, c⟩
      rw [take_snoc hr1]
      exact (ins_perm _ _ _).trans (hp.append_right [r])
    · subst ho
      refine ⟨.ref fa, rfl, ?_⟩
      rw [hx.len, List.take_length] at hp
      obtain ⟨B2, s2, k2, g2⟩ := cq_done ok hfa (by rw [hp.length_eq]; omega) c
      exact q _ B2 H' rs' s2 k2 g2 hp
end
end K20

namespace K20
open PySem PySem.Spec PyProof.Rows L2 Evl Ex Dx
open PySem.PyData (strOk)

section
variable {P : Program} {w : World} {K : PySem.W.Frag} {mg : Str → Option Value} {base : Heap} {f : Addr} {fd : FuncData}
abbrev W4 : List Str := ["a", "ab", "b", "aab"]

theorem w4_ok : ∀ u ∈ W4, wordD (.str u) = true ∧ u ∈ L12 ∧ u.length ≤ 10 := by decide +kernel
theorem inB_ok {k : Int} {n : Nat} (h0 : 0 ≤ k) (h1 : k < (n : Nat)) : inB (.int k) 0 ((n : Nat) - 1) = true := by
  unfold inB
  simp only [Bool.and_eq_true, decide_eq_true_eq]
  omega
theorem atomI {k : Int} {n : Nat} (hn : n ≤ 8) (h0 : 0 ≤ k) (h1 : k < (n : Nat)) : atomD (.int k) = true := by
  show (decide (0 ≤ k) && decide (k ≤ 40)) = true
  rw [Bool.and_eq_true, decide_eq_true_eq, decide_eq_true_eq]
  omega
theorem atomS {s : Str} (h : s ∈ L12) : atomD (.str s) = true := List.contains_iff_mem.mpr h
theorem step_box {p : Addr} {B H B1 H1 B2 H2 : Hp} (hp : H p = none) (s1 : Step (fun _ => False) B H B1 H1) (s2 : Step (fun a => a = p) B1 H1 B2 H2) : Step (fun _ => False) B H B2 H2 :=
  ⟨s1.bb.trans s2.bb, s2.bh, fun a o _ h => s2.keep a o (fun z => ne_of_none h hp z) (s1.keep a o (fun z => z) h), fun a h n => s2.sep a (s1.sep a h n) (s1.live a n), fun a n => s2.live a (s1.live a n)⟩
theorem cq_pass {F : Fm} {B1 H1 B' H' B4 H4 : Hp} {fa : Addr} {acc : List V} {ds : List PyData} (hD : H1 fa = none) (k1 : Ok F B1 H1) (s : Step F.M B1 H1 B' H') (hb : B' fa = none) (hd : H' fa = some (.lst acc)) (ha : DdAll K B' acc ds) (s4 : Step F.M B' H' B4 H4) (k4 : Ok F B4 H4) : Cq F K B1 H1 fa ds H4 := by
  have nm : ¬ F.M fa := fun m => F.lv H1 fa k1.j m hD
  exact ⟨B4, acc, s.trans s4, k4, s4.sep fa hb (by rw [hd]; exact fun z => nomatch z), s4.keep fa _ nm hd, ha.up s4.bb⟩
theorem evp_take {p : Addr} {σ : L2.St} {B : Hp} {i : Nat} {ta : TE} {E : XK} {m : Int} (hi : σ[i]? = some (some (.ref p))) (ha : ED (Fm.box p) K ta σ B (.int m)) (h0 : 0 < m) (h1 : m < 1073741824) : EV (Fm.box p) (tCall (spTake K) [] E (tCons (tVar i) (tCons ta tNil))) σ B (fun v B => ∃ n : Int, Dd K B v (.int n) ∧ 0 ≤ n ∧ n < m) := (ev_take hi ha h0 h1).imp fun v B1 _ ⟨n, hv, g0, g1⟩ => ⟨n, by rw [hv]; exact .int n, g0, g1⟩
theorem ev_tup3 {F : Fm} {σ : L2.St} {B : Hp} {ta tb tc : TE} {Pa Pb Pc : PyData → Prop} (ha : EV F ta σ B (fun v B => ∃ d, Dd K B v d ∧ Pa d)) (hb : EV F tb σ B (fun v B => ∃ d, Dd K B v d ∧ Pb d)) (hc : EV F tc σ B (fun v B => ∃ d, Dd K B v d ∧ Pc d)) :
    EV F (tTup (tCons ta (tCons tb (tCons tc tNil)))) σ B (fun v B => ∃ x y z, Dd K B v (.tuple [x, y, z]) ∧ Pa x ∧ Pb y ∧ Pc z) := fun B1 e0 H j Q q =>
  ha B1 e0 H j _ fun va B2 H2 s2 j2 ⟨x, h2, px⟩ => hb B2 (e0.trans s2.bb) H2 j2 _ fun vb B3 H3 s3 j3 ⟨y, h3, py⟩ => hc B3 ((e0.trans s2.bb).trans s3.bb) H3 j3 _ fun vc B4 H4 s4 j4 ⟨z, h4, pz⟩ =>
    ⟨by show 3 ≤ sizeLine; decide, fun p hp => q (.ref p) _ _ (((s2.trans s3).trans s4).trans (Step.alloc j4.e hp)) (j4.alloc hp) ⟨x, y, z, .tup (st_of upd_same) (by show 3 ≤ sizeLine; decide) (.cons ((h2.up (s3.bb.trans s4.bb)).up (Ex.new (fresh_back j4.e hp))) (.cons ((h3.up s4.bb).up (Ex.new (fresh_back j4.e hp))) (.cons (h4.up (Ex.new (fresh_back j4.e hp))) .nil))), px, py, pz⟩⟩
theorem ev_any {F : Fm} {σ : L2.St} {B : Hp} {te : TE} {d : PyData} (h : ED F K te σ B d) : EV F te σ B (fun v B => ∃ e, Dd K B v e ∧ e = d) := h.imp fun v B1 _ hv => ⟨d, hv, rfl⟩
theorem ev_tup1 {F : Fm} {σ : L2.St} {B : Hp} {ta : TE} {Pa : PyData → Prop} (ha : EV F ta σ B (fun v B => ∃ d, Dd K B v d ∧ Pa d)) : EV F (tTup (tCons ta tNil)) σ B (fun v B => ∃ x, Dd K B v (.tuple [x]) ∧ Pa x) := fun B1 e0 H j Q q =>
  ha B1 e0 H j _ fun va B2 H2 s2 j2 ⟨x, h2, px⟩ => ⟨by show 1 ≤ sizeLine; decide, fun p hp => q (.ref p) _ _ (s2.trans (Step.alloc j2.e hp)) (j2.alloc hp) ⟨x, .tup (st_of upd_same) (by show 1 ≤ sizeLine; decide) (.cons (h2.up (Ex.new (fresh_back j2.e hp))) .nil), px⟩⟩

theorem ev_tup2 {F : Fm} {σ : L2.St} {B : Hp} {ta tb : TE} {Pa Pb : PyData → Prop} (ha : EV F ta σ B (fun v B => ∃ d, Dd K B v d ∧ Pa d)) (hb : EV F tb σ B (fun v B => ∃ d, Dd K B v d ∧ Pb d)) :
    EV F (tTup (tCons ta (tCons tb tNil))) σ B (fun v B => ∃ x y, Dd K B v (.tuple [x, y]) ∧ Pa x ∧ Pb y) := fun B1 e0 H j Q q =>
  ha B1 e0 H j _ fun va B2 H2 s2 j2 ⟨x, h2, px⟩ => hb B2 (e0.trans s2.bb) H2 j2 _ fun vb B3 H3 s3 j3 ⟨y, h3, py⟩ =>
    ⟨by show 2 ≤ sizeLine; decide, fun p hp => q (.ref p) _ _ ((s2.trans s3).trans (Step.alloc j3.e hp)) (j3.alloc hp) ⟨x, y, .tup (st_of upd_same) (by show 2 ≤ sizeLine; decide) (.cons ((h2.up s3.bb).up (Ex.new (fresh_back j3.e hp))) (.cons (h3.up (Ex.new (fresh_back j3.e hp))) .nil)), px, py⟩⟩
/-- tuple(a list that is known up to a choice) -/
theorem ev_tupL {F : Fm} {σ : L2.St} {B : Hp} {te : TE} {Φ : List PyData → Prop} (h : EV F te σ B (fun v B => ∃ ds, Dd K B v (.list ds) ∧ Φ ds)) : EV F (tCB (fun xs H Q => ∃ p ys, xs = [.ref p] ∧ ((SqL K H p ys ∧ ∀ l, H l = none → Q (.ref l) (upd H l (.tup ys))) ∨ (SqT K H p ys ∧ Q (.ref p) H))) (tCons te tNil)) σ B (fun v B => ∃ ds, Dd K B v (.tuple ds) ∧ Φ ds) := fun B1 e0 H j Q q =>
  h B1 e0 H j _ fun v B2 H2 s2 j2 ⟨ds, g, hΦ⟩ => by
    obtain ⟨a, xs, rfl, h1, l1, g1⟩ := dd_lst g
    exact ⟨a, xs, rfl, .inl ⟨sq_of (j2.e _ _ h1), fun l hl => q _ _ _ (s2.trans (Step.alloc j2.e hl)) (j2.alloc hl) ⟨ds, .tup (st_of upd_same) l1 (g1.up (Ex.new (fresh_back j2.e hl))), hΦ⟩⟩⟩
/-- [te for k in range(..)], each item known up to a choice -/
theorem ev_lcRN {F : Fm} {σ : L2.St} {B : Hp} {ta : TA} {te : TE} {j : Nat} {vsN : List Nat} {C : PyData → Prop} {N : Nat} (h : EVs F ta σ B (fun vs _ => ∃ n : Int, vs = [.int n] ∧ 0 ≤ n ∧ n ≤ (N : Nat))) (hN : N ≤ 1000) (hw : ∀ x, wipe ((wipe σ vsN).set j (some x)) vsN = wipe σ vsN)
    (he : ∀ (i : Nat) B1, Ex B B1 → EV F te ((wipe σ vsN).set j (some (.int (i : Int)))) B1 (fun v B => ∃ d, Dd K B v d ∧ C d)) :
    EV F (tLc (iRng1 ta) (gName j) tYes te vsN) σ B (fun v B => ∃ ds, Dd K B v (.list ds) ∧ ds.length ≤ N ∧ ∀ x ∈ ds, C x) := fun B0 e0 H0 k0 Q q => by
  refine h B0 e0 H0 k0 _ fun vs B1 H1 s1 k1 pv => ?_
  obtain ⟨n, rfl, n0, n1⟩ := pv
  refine ⟨n, rfl, by omega, by omega, fun Dl hD => lc_range (lo := 0) (n := n.toNat) (fun i H' => ∃ ds : List PyData, ds.length = i ∧ (∀ x ∈ ds, C x) ∧ Cq F K B1 H1 Dl ds H') ⟨[], rfl, fun x hx => (nomatch hx), cq_start k1 hD⟩ (fun i H' hi ⟨ds, hl, hC, c⟩ => ?_) (fun H' ⟨ds, hl, hC, c⟩ => ?_)⟩
  · have e1 : (0 : Int) + (i : Int) = (i : Int) := Int.zero_add _
    show wipe ((wipe σ vsN).set j (some (.int ((0 : Int) + (i : Int))))) vsN = wipe σ vsN ∧ tYes ((wipe σ vsN).set j (some (.int ((0 : Int) + (i : Int))))) H' _
    rw [e1]
    refine ⟨hw _, ?_⟩
    obtain ⟨B', acc, s, k, hb, hd, ha⟩ := c
    have nm : ¬ F.M Dl := fun m => F.lv H1 Dl k1.j m hD
    have lv : H' Dl ≠ none := by
      rw [hd]
      exact fun z => nomatch z
    show te _ H' _
    refine he i B' ((e0.trans s1.bb).trans s.bb) B' (Ex.refl B') H' k _ fun y B4 H4 s4 k4 ⟨d, g, hc⟩ => ?_
    refine ⟨acc, s4.keep Dl _ nm hd, by rw [ha.len, sizeLine_eq]; omega, ds ++ [d], by rw [List.length_append, List.length_singleton, hl], fun x hx => ?_, cq_more hD k1 (s.trans s4) k4 (s4.sep Dl hb lv) (s4.keep Dl _ nm hd) (ha.up s4.bb) g⟩
    rcases List.mem_append.mp hx with hx | hx
    · exact hC x hx
    · rw [List.mem_singleton.mp hx]
      exact hc
  · obtain ⟨B2, s2, k2, g2⟩ := cq_done k1 hD (by omega) c
    exact q _ B2 H' (s1.trans s2) k2 ⟨ds, g2, by omega, hC⟩
/-! ### drawn knots -/
def SK (n : Nat) (c m l : Nat) (d : PyData) : Prop := okN d n = true ∧ cnt "foot" (ND d) = c ∧ smD m d = true ∧ (ND d).length ≤ l
theorem smD_up : ∀ {m : Nat} {d : PyData}, smD m d = true → smD (m + 1) d = true
  | 0, d, h => by
    show (atomD d || _) = true
    rw [show atomD d = true from h]
    rfl
  | m + 1, d, h => by
    rcases smD_is h with h1 | ⟨ds, rfl, hl, h2⟩
    · show (atomD d || _) = true
      rw [h1]
      rfl
    · show (atomD (.tuple ds) || (decide (ds.length ≤ 20) && ds.all (smD (m + 1)))) = true
      rw [decide_eq_true hl, List.all_eq_true.mpr fun x hx => smD_up (h2 x hx)]
      simp
theorem smD_le {m k : Nat} {d : PyData} (h : smD m d = true) (hk : m ≤ k) : smD k d = true := by
  obtain ⟨j, rfl⟩ : ∃ j, k = m + j := ⟨k - m, by omega⟩
  clear hk
  induction j with
  | zero => exact h
  | succ j ih => exact smD_up ih
theorem smD_atom {m : Nat} {d : PyData} (h : atomD d = true) : smD m d = true := smD_le (m := 0) h (Nat.zero_le _)
theorem smD_tup {m : Nat} {ds : List PyData} (hl : ds.length ≤ 20) (h : ∀ x ∈ ds, smD m x = true) : smD (m + 1) (.tuple ds) = true := by
  show (atomD (.tuple ds) || (decide (ds.length ≤ 20) && ds.all (smD m))) = true
  rw [decide_eq_true hl, List.all_eq_true.mpr h]
  simp
theorem smD_dep {m : Nat} {d : PyData} (h : smD m d = true) (hm : m ≤ 60) : d.depth ≤ 64 := Nat.le_trans (smD_sm m d h).2 (by omega)
theorem cnt_cons (s : Str) (d : PyData) (l : List PyData) : cnt s (d :: l) = cnt s l + (if isS (hdD d) s = true then 1 else 0) := by
  unfold cnt
  rw [List.countP_cons]
theorem cnt_app (s : Str) (a b : List PyData) : cnt s (a ++ b) = cnt s a + cnt s b := List.countP_append ..
theorem cnt_flat0 {s : Str} : ∀ {ks : List PyData}, (∀ c ∈ ks, cnt s (ND c) = 0) → cnt s (ks.flatMap ND) = 0
  | [], _ => rfl
  | c :: ks, h => by
    rw [List.flatMap_cons, cnt_app, h c List.mem_cons_self, cnt_flat0 fun x hx => h x (List.mem_cons_of_mem _ hx)]
theorem len_flat {l : Nat} : ∀ {ks : List PyData}, (∀ c ∈ ks, (ND c).length ≤ l) → (ks.flatMap ND).length ≤ ks.length * l
  | [], _ => Nat.zero_le _
  | c :: ks, h => by
    have h1 := h c List.mem_cons_self
    have h2 := len_flat fun x hx => h x (List.mem_cons_of_mem c hx)
    rw [List.flatMap_cons, List.length_append, List.length_cons, Nat.add_mul, Nat.one_mul]
    omega
theorem atomW {s : Str} (h : s ∈ L12 := by decide +kernel) {m : Nat} : smD m (.str s) = true := smD_atom (atomS h)
theorem sk_word {n : Nat} {u : Str} (hu : u ∈ W4) {m l : Nat} (hm : 1 ≤ m) (hm2 : m ≤ 60) (hl : 1 ≤ l) : SK n 0 m l (.tuple [.str "word", .str u]) := by
  have hs : smD m (.tuple [.str "word", .str u]) = true := smD_le (m := 1) (smD_tup (by show 2 ≤ 20; decide) fun x hx => by
    simp only [List.mem_cons, List.mem_nil_iff, or_false] at hx
    rcases hx with rfl | rfl
    · exact atomW
    · exact atomW (w4_ok u hu).2.1) hm
  have hd := smD_dep hs hm2
  have hnd : ND (.tuple [.str "word", .str u]) = [.tuple [.str "word", .str u]] := by rw [ND_eq hd, kids_word]; rfl
  exact ⟨okN_mk hd (.word _ (w4_ok u hu).1) (by rw [kids_word]; exact fun c hc => nomatch hc), by rw [hnd, cnt_cons]; exact (by decide +kernel : 0 + (if isS (.str "word") "foot" = true then 1 else 0) = 0), hs, by rw [hnd]; exact hl⟩
theorem sk_foot {n : Nat} {m l : Nat} (hm : 1 ≤ m) (hm2 : m ≤ 60) (hl : 1 ≤ l) : SK n 1 m l (.tuple [.str "foot"]) := by
  have hs : smD m (.tuple [.str "foot"]) = true := smD_le (m := 1) (smD_tup (by decide) fun x hx => by
    rw [List.mem_singleton.mp hx]
    exact atomW) hm
  have hd := smD_dep hs hm2
  have hnd : ND (.tuple [.str "foot"]) = [.tuple [.str "foot"]] := by rw [ND_eq hd, kids_foot]; rfl
  exact ⟨okN_mk hd .foot (by rw [kids_foot]; exact fun c hc => nomatch hc), by rw [hnd]; decide +kernel, hs, by rw [hnd]; exact hl⟩
/-- a row of knots, all in all -/
structure Row (n : Nat) (c m l : Nat) (ks : List PyData) : Prop where
  len : ks.length ≤ 20
  ok : ∀ x ∈ ks, okN x n = true
  ft : cnt "foot" (ks.flatMap ND) = c
  sm : ∀ x ∈ ks, smD m x = true
  sz : (ks.flatMap ND).length ≤ l
theorem sk_plain {n c m l : Nat} {ks : List PyData} (R : Row n c m l ks) (hm : m ≤ 50) : SK n c (m + 2) (l + 1) (.tuple [.str "plain", .tuple ks]) := by
  have hs : smD (m + 2) (.tuple [.str "plain", .tuple ks]) = true := smD_tup (by show 2 ≤ 20; decide) fun x hx => by
    simp only [List.mem_cons, List.mem_nil_iff, or_false] at hx
    rcases hx with rfl | rfl
    · exact atomW
    · exact smD_tup R.len R.sm
  have hd := smD_dep hs (by omega)
  have hnd := ND_eq hd
  rw [kids_plain] at hnd
  refine ⟨okN_mk hd (.plain ks) (by rw [kids_plain]; exact R.ok), ?_, hs, ?_⟩
  · rw [hnd, cnt_cons, R.ft]
    exact Nat.add_zero c
  · rw [hnd, List.length_cons]
    have := R.sz
    omega
theorem sk_graft {n c m l : Nat} {k : Int} {ks : List PyData} (R : Row n c m l ks) (hm : m ≤ 50) (hn : n ≤ 8) (k0 : 0 ≤ k) (k1 : k < (n : Nat)) : SK n c (m + 2) (l + 1) (.tuple [.str "graft", .int k, .tuple ks]) := by
  have hs : smD (m + 2) (.tuple [.str "graft", .int k, .tuple ks]) = true := smD_tup (by show 3 ≤ 20; decide) fun x hx => by
    simp only [List.mem_cons, List.mem_nil_iff, or_false] at hx
    rcases hx with rfl | rfl | rfl
    · exact atomW
    · exact smD_atom (atomI hn k0 k1)
    · exact smD_tup R.len R.sm
  have hd := smD_dep hs (by omega)
  have hnd := ND_eq hd
  rw [kids_graft] at hnd
  refine ⟨okN_mk hd (.graft k ks k0 k1) (by rw [kids_graft]; exact R.ok), ?_, hs, ?_⟩
  · rw [hnd, cnt_cons, R.ft]
    exact Nat.add_zero c
  · rw [hnd, List.length_cons]
    have := R.sz
    omega
def spKnot (K : PySem.W.Frag) (c m l h : Nat) : Sp := fun vs H Q _ => ∃ (p : Addr) (vw : V) (B : Hp) (n : Nat) (ws : List Str), vs = [.ref p, .int (n : Nat), vw, .int (h : Nat)] ∧ Ok (Fm.box p) B H ∧ Dd K B vw (.list (ws.map .str)) ∧ ws ≠ [] ∧ ws.length ≤ 10 ∧ (∀ u ∈ ws, u ∈ W4) ∧ 1 ≤ n ∧ n ≤ 8 ∧
  ∀ v' B' H' d, Step (fun a => a = p) B H B' H' → Ok (Fm.box p) B' H' → Dd K B' v' d → SK n c m l d → Q v' H'
def spSideX (K : PySem.W.Frag) : Nat → Sp
  | 0 => fun _ _ _ _ => False
  | h + 1 => spKnot K 0 (2 * h + 2) (3 * h + 1) h
def spFootX (K : PySem.W.Frag) : Nat → Sp
  | 0 => fun _ _ _ _ => False
  | h + 1 => spKnot K 1 (2 * h + 4) (17 * h + 1) h
section
variable {F : Fm} {σ : L2.St} {B : Hp} {p : Addr} {n : Nat} {ws : List Str} {vw : V} {i j l : Nat}
theorem ev_word (hi : σ[i]? = some (some (.ref p))) (hj : σ[j]? = some (some vw)) (hvw : Dd K B vw (.list (ws.map .str))) (h0 : ws ≠ []) (h1 : ws.length ≤ 10) (h4 : ∀ u ∈ ws, u ∈ W4) {E : XK} : EV (Fm.box p) (tCall (spPick K) [] E (tCons (tVar i) (tCons (tVar j) tNil))) σ B (fun v B => ∃ d, Dd K B v d ∧ ∃ u, d = .str u ∧ u ∈ W4) :=
  (ev_pick hi (ed_var hj hvw) (.inl rfl) (fun z => h0 (List.map_eq_nil_iff.mp z)) (by rw [List.length_map]; omega)).imp fun v B1 _ ⟨x, hx, hv⟩ => by
    obtain ⟨u, hu, rfl⟩ := List.mem_map.mp hx
    exact ⟨_, hv, u, rfl, h4 u hu⟩
theorem evp_kind (hi : σ[i]? = some (some (.ref p))) (hj : σ[j]? = some (some (.int (n : Nat)))) (n1 : 1 ≤ n) (n8 : n ≤ 8) {E : XK} : EV (Fm.box p) (tCall (spTake K) [] E (tCons (tVar i) (tCons (tVar j) tNil))) σ B (fun v B => ∃ d, Dd K B v d ∧ ∃ k : Int, d = .int k ∧ 0 ≤ k ∧ k < (n : Nat)) :=
  (evp_take (K := K) (m := (n : Nat)) hi (ed_var hj (.int _)) (by omega) (by omega)).imp fun v B1 _ ⟨k, hv, k0, k1⟩ => ⟨_, hv, k, rfl, k0, k1⟩
end

abbrev s_law_side_knot : Stmt := topS 40
abbrev N_law_side_knot : List Str := ["box", "kinds", "words", "deep", "how", "some", "k"]
theorem sc_law_side_knot : FnScope N_law_side_knot ["box", "kinds", "words", "deep"] (defScope s_law_side_knot) := ⟨rfl, rfl, rfl, by decide +kernel, rfl, by decide +kernel, by decide +kernel⟩
theorem ok_side (h : Nat) (hh : h ≤ 1) (F : Fun K "_law_side_knot" "_law_side_knot" s_law_side_knot f fd) (T : TC K mg) (C_law_take : Callee P w K mg base "_law_take" 1 ["box", "many"] (spTake K)) (C_law_pick : Callee P w K mg base "_law_pick" 2 ["box", "some"] (spPick K)) (C_law_side_knot : Callee P w K mg base "_law_side_knot" (h + 3) ["box", "kinds", "words", "deep"] (spSideX K h)) : FnOk P w K mg base CX0 (h + 4) f fd ["box", "kinds", "words", "deep"] (spSideX K (h + 1)) := by
  refine F.ok sc_law_side_knot (fun vs H Q E h => ?_) (fun cdv A outer s H vs Q E hr h' => ?_)
  · obtain ⟨p, vw, B, n, ws, rfl, _⟩ := h
    rfl
  · obtain ⟨p, vw, B, n, ws, rfl, ok, hvw, hw0, hw1, hw4, n1, n8, q⟩ := h'
    have hu64 : (A.deeper (envOfC "_law_side_knot" (defScope s_law_side_knot) s.heap.objs.size f cdv)).units + 64 < cLine := hr.units
    refine ⟨_, (pss_cons (ps_set (i := 4) sc_law_side_knot.nd rfl (Or.inl rfl) (pe_callC C_law_take (hr.mono (by omega)) rfl pass0 (pa_cons (pv 0) (pa_cons pe_int pa_nil))))
      (pss_cons (ps_if (pt_cmpR op_lt (pv 4) pe_int (nomark _)) (pss_one (ps_ret (pe_tup (pa_cons pe_str (pa_cons (pe_callC C_law_pick (hr.mono (by omega)) rfl pass0 (pa_cons (pv 0) (pa_cons (pv 2) pa_nil))) pa_nil))))) pss_nil)
      (pss_cons (ps_set (i := 5) sc_law_side_knot.nd rfl (Or.inl rfl) (pe_ifExp (pt_cmpR op_gt (pv 3) pe_int (nomark _)) (pe_callTy (call_tuple_ofK K) (by rfl) T.m_tuple bt_tuple (pa_cons (pe_lc (own := [("k", 6)]) rfl sc_law_side_knot.nd (pi_range1 rfl T.m_range (pa_cons (pe_callC C_law_take (hr.mono (by omega)) rfl pass0 (pa_cons (pv 0) (pa_cons pe_int pa_nil))) pa_nil)) (blkOk_by (own := [("k", 6)]) (N := N_law_side_knot) (sc := defScope s_law_side_knot) (by decide +kernel)) (fun _ _ _ _ _ => pg_name (i := 6) sc_law_side_knot.nd rfl (Or.inl rfl)) (fun _ _ _ _ _ => pts_nil) (fun _ _ _ _ _ => (pe_callC C_law_side_knot (hr.mono (by omega)) rfl pass0 (pa_cons (pv 0) (pa_cons (pv 1) (pa_cons (pv 2) (pa_cons (pe_op op_sub (pv 3) pe_int) pa_nil))))))) pa_nil)) (pe_tup pa_nil)))
      (pss_one (ps_ret (pe_ifExp (pt_cmpR (op_eqDK K hu64) (pv 4) pe_int (nomark _)) (pe_tup (pa_cons pe_str (pa_cons (pv 5) pa_nil))) (pe_tup (pa_cons pe_str (pa_cons (pe_callC C_law_take (hr.mono (by omega)) rfl pass0 (pa_cons (pv 0) (pa_cons (pv 1) pa_nil))) (pa_cons (pv 5) pa_nil)))))))))), ?_⟩
    have a : At (Fm.box p) B H B H := At.start ok
    have fin : ∀ v B1 H1 d, At (Fm.box p) B H B1 H1 → Dd K B1 v d → SK n 0 (2 * h + 2) (3 * h + 1) d → Q v H1 := fun v B1 H1 d a1 h1 h2 => q v B1 H1 d a1.st a1.j h1 h2
    refine qv_asg (P := fun v _ => ∃ i : Int, v = .int i ∧ 0 ≤ i ∧ i < 6) a (ev_take rfl ed_int (by decide) (by decide)) fun vh B1 H1 e1 a1 ⟨i, hi, i0, i1⟩ => ?_
    subst hi
    refine qv_when (b := decide (i < 3)) a1 (et_cmp (K := K) (ed_op (ed_var rfl (.int i)) ed_int rd_lt)) (fun _ B2 H2 e2 a2 => ?_) (fun _ B2 H2 e2 a2 => ?_)
    · refine sv_ret a2 (ev_tup2 (ev_any ed_str) (ev_word rfl rfl (hvw.up (e1.trans e2)) hw0 hw1 hw4)) fun v3 B3 H3 e3 a3 h3 => ?_
      obtain ⟨_, _, hv3, rfl, u, rfl, hu⟩ := h3
      exact fin v3 B3 H3 _ a3 hv3 (sk_word hu (by omega) (by omega) (by omega))
    have e12 := e1.trans e2
    refine qv_asg (P := fun v B => ∃ ds, Dd K B v (.tuple ds) ∧ Row n 0 (2 * h) (3 * h) ds) a2 (ev_if (b := decide (0 < h)) (et_is (et_cmp (K := K) (ed_op (ed_var rfl (.int ((h : Nat) : Int))) ed_int rd_gt)) (by rw [Bool.eq_iff_iff, decide_eq_true_eq, decide_eq_true_eq]; omega)) (fun hb => ?_) (fun hb => ?_)) fun vs3 B3 H3 e3 a3 h3 => ?_
    · have hb' : 0 < h := of_decide_eq_true hb
      obtain ⟨h, rfl⟩ : ∃ h', h = h' + 1 := ⟨h - 1, by omega⟩
      refine (ev_tupL (ev_lcRN (N := 2) (C := SK n 0 (2 * h + 2) (3 * h + 1)) ?_ (by decide) (fun _ => rfl) ?_)).imp fun v B5 _ ⟨ds, hv, hl, hC⟩ => ⟨ds, hv, ⟨by omega, fun x hx => (hC x hx).1, cnt_flat0 fun x hx => (hC x hx).2.1, fun x hx => (hC x hx).2.2.1, ?_⟩⟩
      · intro B5 e5 H5 j5 Q5 q5
        refine ev_take (K := K) (m := 3) (B := B2) (p := p) (E := E0) (i := 0) rfl ed_int (by decide) (by decide) B5 e5 H5 j5 _ fun v B6 H6 s6 j6 ⟨k, hk, k0, k1⟩ => ?_
        subst hk
        exact q5 _ B6 H6 s6 j6 ⟨k, rfl, k0, by omega⟩
      · intro i B5 e5 B6 e6 H6 j6 Q6 q6
        refine ⟨.ref p, rfl, .int (n : Nat), rfl, vw, rfl, _, rfl, ((h + 1 : Nat) : Int), 1, rfl, rfl, ?_⟩
        refine ⟨p, vw, B6, n, ws, ?_, j6, hvw.up ((e12.trans e5).trans e6), hw0, hw1, hw4, n1, n8, fun v' B' H' d s' k' g' hs' => q6 v' B' H' s' k' ⟨d, g', hs'⟩⟩
        show [V.ref p, V.int (n : Nat), vw, V.int (((h + 1 : Nat) : Int) - 1)] = [V.ref p, V.int (n : Nat), vw, V.int ((h : Nat) : Int)]
        rw [show (((h + 1 : Nat) : Int) - 1) = ((h : Nat) : Int) by omega]
      · have h1 := len_flat (l := 3 * h + 1) fun x hx => (hC x hx).2.2.2
        have h2 : ds.length * (3 * h + 1) ≤ 2 * (3 * h + 1) := Nat.mul_le_mul_right _ hl
        omega
    · exact (ed_tup (K := K) (ds := []) eds_nil).imp fun v B5 _ hv => ⟨[], hv, ⟨by decide, fun x hx => (nomatch hx), rfl, fun x hx => (nomatch hx), Nat.zero_le _⟩⟩
    · obtain ⟨ds, hds, R⟩ := h3
      refine sv_ret (P := fun v B => ∃ d, Dd K B v d ∧ SK n 0 (2 * h + 2) (3 * h + 1) d) a3 (ev_if (b := PyData.eqv (.int i) (.int 3)) (et_cmp (K := K) (ed_op (ed_var rfl (.int i)) ed_int (rd_eqD rfl rfl))) (fun _ => ?_) (fun _ => ?_)) fun v4 B4 H4 e4 a4 ⟨d, h4, hs4⟩ => fin v4 B4 H4 d a4 h4 hs4
      · exact (ed_tup (eds_cons ed_str (eds_cons (ed_var rfl hds) eds_nil))).imp fun v B5 _ hv => ⟨_, hv, sk_plain R (by omega)⟩
      · refine (ev_tup3 (ev_any ed_str) (evp_kind (n := n) rfl rfl n1 n8) (ev_any (ed_var rfl hds))).imp fun v B5 _ hv => ?_
        obtain ⟨_, _, _, hv, rfl, ⟨k, rfl, k0, k1⟩, rfl⟩ := hv
        exact ⟨_, hv, sk_graft R (by omega) n8 k0 k1⟩

abbrev s_law_foot_knot : Stmt := topS 41
abbrev N_law_foot_knot : List Str := ["box", "kinds", "words", "deep", "left", "right", "row", "k"]
theorem sc_law_foot_knot : FnScope N_law_foot_knot ["box", "kinds", "words", "deep"] (defScope s_law_foot_knot) := ⟨rfl, rfl, rfl, by decide +kernel, rfl, by decide +kernel, by decide +kernel⟩
theorem row_app {n c1 c2 m l1 l2 : Nat} {a b : List PyData} (R1 : Row n c1 m l1 a) (R2 : Row n c2 m l2 b) (hl : a.length + b.length ≤ 20) : Row n (c1 + c2) m (l1 + l2) (a ++ b) := ⟨by rw [List.length_append]; exact hl, fun x hx => by
  rcases List.mem_append.mp hx with h | h
  · exact R1.ok x h
  · exact R2.ok x h, by rw [List.flatMap_append, cnt_app, R1.ft, R2.ft], fun x hx => by
  rcases List.mem_append.mp hx with h | h
  · exact R1.sm x h
  · exact R2.sm x h, by
  rw [List.flatMap_append, List.length_append]
  have := R1.sz
  have := R2.sz
  omega⟩
theorem row_one {n c m l : Nat} {d : PyData} (h : SK n c m l d) : Row n c m l [d] := ⟨by show 1 ≤ 20; decide, fun x hx => by rw [List.mem_singleton.mp hx]; exact h.1, by rw [List.flatMap_cons, List.flatMap_nil, List.append_nil]; exact h.2.1, fun x hx => by rw [List.mem_singleton.mp hx]; exact h.2.2.1, by rw [List.flatMap_cons, List.flatMap_nil, List.append_nil]; exact h.2.2.2⟩
theorem ok_foot (h : Nat) (hh : h ≤ 3) (F : Fun K "_law_foot_knot" "_law_foot_knot" s_law_foot_knot f fd) (T : TC K mg) (C_law_take : Callee P w K mg base "_law_take" 1 ["box", "many"] (spTake K)) (C_law_pick : Callee P w K mg base "_law_pick" 2 ["box", "some"] (spPick K)) (C_law_side_knot : Callee P w K mg base "_law_side_knot" 5 ["box", "kinds", "words", "deep"] (spSideX K 2)) (C_law_foot_knot : Callee P w K mg base "_law_foot_knot" (h + 5) ["box", "kinds", "words", "deep"] (spFootX K h)) : FnOk P w K mg base CX0 (h + 6) f fd ["box", "kinds", "words", "deep"] (spFootX K (h + 1)) := by
  refine F.ok sc_law_foot_knot (fun vs H Q E h => ?_) (fun cdv A outer s H vs Q E hr h' => ?_)
  · obtain ⟨p, vw, B, n, ws, rfl, _⟩ := h
    rfl
  · obtain ⟨p, vw, B, n, ws, rfl, ok, hvw, hw0, hw1, hw4, n1, n8, q⟩ := h'
    have hu64 : (A.deeper (envOfC "_law_foot_knot" (defScope s_law_foot_knot) s.heap.objs.size f cdv)).units + 64 < cLine := hr.units
    refine ⟨_, (pss_cons (ps_if (pt_cmpR (op_eqDK K hu64) (pv 3) pe_int (nomark _)) (pss_one (ps_ret (pe_tup (pa_cons pe_str pa_nil)))) pss_nil)
      (pss_cons (ps_set (i := 4) sc_law_foot_knot.nd rfl (Or.inl rfl) (pe_callTy (call_tuple_ofK K) (by rfl) T.m_tuple bt_tuple (pa_cons (pe_lc (own := [("k", 7)]) rfl sc_law_foot_knot.nd (pi_range1 rfl T.m_range (pa_cons (pe_callC C_law_pick (hr.mono (by omega)) rfl pass0 (pa_cons (pv 0) (pa_cons (pe_lst (pa_cons pe_int (pa_cons pe_int (pa_cons pe_int (pa_cons pe_int (pa_cons pe_int pa_nil)))))) pa_nil))) pa_nil)) (blkOk_by (own := [("k", 7)]) (N := N_law_foot_knot) (sc := defScope s_law_foot_knot) (by decide +kernel)) (fun _ _ _ _ _ => pg_name (i := 7) sc_law_foot_knot.nd rfl (Or.inl rfl)) (fun _ _ _ _ _ => pts_nil) (fun _ _ _ _ _ => (pe_callC C_law_side_knot (hr.mono (by omega)) rfl pass0 (pa_cons (pv 0) (pa_cons (pv 1) (pa_cons (pv 2) (pa_cons pe_int pa_nil))))))) pa_nil)))
      (pss_cons (ps_set (i := 5) sc_law_foot_knot.nd rfl (Or.inl rfl) (pe_callTy (call_tuple_ofK K) (by rfl) T.m_tuple bt_tuple (pa_cons (pe_lc (own := [("k", 7)]) rfl sc_law_foot_knot.nd (pi_range1 rfl T.m_range (pa_cons (pe_callC C_law_pick (hr.mono (by omega)) rfl pass0 (pa_cons (pv 0) (pa_cons (pe_lst (pa_cons pe_int (pa_cons pe_int (pa_cons pe_int (pa_cons pe_int (pa_cons pe_int pa_nil)))))) pa_nil))) pa_nil)) (blkOk_by (own := [("k", 7)]) (N := N_law_foot_knot) (sc := defScope s_law_foot_knot) (by decide +kernel)) (fun _ _ _ _ _ => pg_name (i := 7) sc_law_foot_knot.nd rfl (Or.inl rfl)) (fun _ _ _ _ _ => pts_nil) (fun _ _ _ _ _ => (pe_callC C_law_side_knot (hr.mono (by omega)) rfl pass0 (pa_cons (pv 0) (pa_cons (pv 1) (pa_cons (pv 2) (pa_cons pe_int pa_nil))))))) pa_nil)))
      (pss_cons (ps_set (i := 6) sc_law_foot_knot.nd rfl (Or.inl rfl) (pe_op (op_addK K) (pe_op (op_addK K) (pv 4) (pe_tup (pa_cons (pe_callC C_law_foot_knot (hr.mono (by omega)) rfl pass0 (pa_cons (pv 0) (pa_cons (pv 1) (pa_cons (pv 2) (pa_cons (pe_op op_sub (pv 3) pe_int) pa_nil))))) pa_nil))) (pv 5)))
      (pss_one (ps_ret (pe_ifExp (pt_cmpR (op_eqDK K hu64) (pe_callC C_law_take (hr.mono (by omega)) rfl pass0 (pa_cons (pv 0) (pa_cons pe_int pa_nil))) pe_int (nomark _)) (pe_tup (pa_cons pe_str (pa_cons (pv 6) pa_nil))) (pe_tup (pa_cons pe_str (pa_cons (pe_callC C_law_take (hr.mono (by omega)) rfl pass0 (pa_cons (pv 0) (pa_cons (pv 1) pa_nil))) (pa_cons (pv 6) pa_nil))))))))))), ?_⟩
    have a : At (Fm.box p) B H B H := At.start ok
    have fin : ∀ v B1 H1 d, At (Fm.box p) B H B1 H1 → Dd K B1 v d → SK n 1 (2 * h + 4) (17 * h + 1) d → Q v H1 := fun v B1 H1 d a1 h1 h2 => q v B1 H1 d a1.st a1.j h1 h2
    refine qv_when (b := decide (h = 0)) a (et_is (et_cmp (K := K) (ed_op (ed_var rfl (.int ((h : Nat) : Int))) ed_int (rd_eqD rfl rfl))) (by rw [eqv_int, Bool.eq_iff_iff, beq_iff_eq, decide_eq_true_eq]; omega)) (fun hb B1 H1 e1 a1 => ?_) (fun hb B1 H1 e1 a1 => ?_)
    · refine sv_ret (P := DD K (.tuple [.str "foot"])) a1 (ed_tup (eds_cons ed_str eds_nil)) fun v3 B3 H3 e3 a3 h3 => fin v3 B3 H3 _ a3 h3 (sk_foot (by omega) (by omega) (by omega))
    obtain ⟨h, rfl⟩ : ∃ h', h = h' + 1 := ⟨h - 1, by have := of_decide_eq_false hb; omega⟩
    have side : ∀ (σ : L2.St) Bx, σ[0]? = some (some (.ref p)) → σ[1]? = some (some (.int (n : Nat))) → σ[2]? = some (some vw) → Ex B Bx → (∀ x, wipe ((wipe σ [7]).set 7 (some x)) [7] = wipe σ [7]) → (∀ x, ((wipe σ [7]).set 7 (some x))[0]? = some (some (.ref p)) ∧ ((wipe σ [7]).set 7 (some x))[1]? = some (some (.int (n : Nat))) ∧ ((wipe σ [7]).set 7 (some x))[2]? = some (some vw)) → EV (Fm.box p) (tCB (fun xs H Q => ∃ p ys, xs = [.ref p] ∧ ((SqL K H p ys ∧ ∀ l, H l = none → Q (.ref l) (upd H l (.tup ys))) ∨ (SqT K H p ys ∧ Q (.ref p) H))) (tCons (tLc (iRng1 (tCons (tCall (spPick K) [] E0 (tCons (tVar 0) (tCons (tLst (tCons (tC (.int 0)) (tCons (tC (.int 0)) (tCons (tC (.int 1)) (tCons (tC (.int 1)) (tCons (tC (.int 2)) tNil)))))) tNil))) tNil)) (gName 7) tYes (tCall (spSideX K 2) [] E0 (tCons (tVar 0) (tCons (tVar 1) (tCons (tVar 2) (tCons (tC (.int 1)) tNil))))) [7]) tNil)) σ Bx (fun v B => ∃ ds, Dd K B v (.tuple ds) ∧ ds.length ≤ 2 ∧ Row n 0 (2 * h + 4) 8 ds) := by
      intro σ Bx h0 h1 h2 ex hw hs
      refine (ev_tupL (ev_lcRN (N := 2) (C := SK n 0 4 4) ?_ (by decide) hw ?_)).imp fun v B5 _ ⟨ds, hv, hl, hC⟩ => ⟨ds, hv, hl, ⟨by omega, fun x hx => (hC x hx).1, cnt_flat0 fun x hx => (hC x hx).2.1, fun x hx => smD_le (hC x hx).2.2.1 (by omega), ?_⟩⟩
      · intro B5 e5 H5 j5 Q5 q5
        refine ev_pick (K := K) (B := Bx) (p := p) (E := E0) (i := 0) (d := .list [.int 0, .int 0, .int 1, .int 1, .int 2]) h0 (ed_lst (eds_cons ed_int (eds_cons ed_int (eds_cons ed_int (eds_cons ed_int (eds_cons ed_int eds_nil)))))) (.inl rfl) (fun z => nomatch z) (by show 5 < 1073741824; decide) B5 e5 H5 j5 _ fun v B6 H6 s6 j6 ⟨k, hk, hkv⟩ => ?_
        simp only [List.mem_cons, List.mem_nil_iff, or_false] at hk
        rcases hk with rfl | rfl | rfl | rfl | rfl <;> (obtain rfl := dd_int hkv; exact q5 _ B6 H6 s6 j6 ⟨_, rfl, by decide, by decide⟩)
      · intro i B5 e5 B6 e6 H6 j6 Q6 q6
        obtain ⟨g0, g1, g2⟩ := hs (.int (i : Int))
        exact ⟨.ref p, g0, .int (n : Nat), g1, vw, g2, p, vw, B6, n, ws, rfl, j6, hvw.up ((ex.trans e5).trans e6), hw0, hw1, hw4, n1, n8, fun v' B' H' d s' k' g' hs' => q6 v' B' H' s' k' ⟨d, g', hs'⟩⟩
      · have h1 := len_flat (l := 4) fun x hx => (hC x hx).2.2.2
        omega
    refine qv_asg (P := fun v B => ∃ ds, Dd K B v (.tuple ds) ∧ ds.length ≤ 2 ∧ Row n 0 (2 * h + 4) 8 ds) a1 (side _ _ rfl rfl rfl e1 (fun _ => rfl) fun _ => ⟨rfl, rfl, rfl⟩) fun vl B2 H2 e2 a2 ⟨dl, hdl, ll, Rl⟩ => ?_
    refine qv_asg (P := fun v B => ∃ ds, Dd K B v (.tuple ds) ∧ ds.length ≤ 2 ∧ Row n 0 (2 * h + 4) 8 ds) a2 (side _ _ rfl rfl rfl (e1.trans e2) (fun _ => rfl) fun _ => ⟨rfl, rfl, rfl⟩) fun vr B3 H3 e3 a3 ⟨dr, hdr, lr, Rr⟩ => ?_
    have e13 := (e1.trans e2).trans e3
    refine qv_asg (P := fun v B => ∃ ds, Dd K B v (.tuple ds) ∧ Row n 1 (2 * h + 4) (17 * h + 17) ds) a3 (ev_op (P := fun v B => ∃ x, Dd K B v (.tuple (dl ++ [x])) ∧ SK n 1 (2 * h + 4) (17 * h + 1) x) (P' := DD K (.tuple dr)) (ev_op (P := DD K (.tuple dl)) (P' := fun v B => ∃ x, Dd K B v (.tuple [x]) ∧ SK n 1 (2 * h + 4) (17 * h + 1) x) (ed_var rfl (hdl.up e3)) (ev_tup1 ?_) upc_dd ?_) (ed_var rfl hdr) (fun v B B' e ⟨x, h1, h2⟩ => ⟨x, h1.up e, h2⟩) ?_) fun vx B4 H4 e4 a4 ⟨ds, hds, R⟩ => ?_
    · intro B5 e5 H5 j5 Q5 q5
      refine ⟨.ref p, rfl, .int (n : Nat), rfl, vw, rfl, _, rfl, ((h + 1 : Nat) : Int), 1, rfl, rfl, ?_⟩
      refine ⟨p, vw, B5, n, ws, ?_, j5, hvw.up (e13.trans e5), hw0, hw1, hw4, n1, n8, fun v' B' H' d s' k' g' hs' => q5 v' B' H' s' k' ⟨d, g', hs'⟩⟩
      show [V.ref p, V.int (n : Nat), vw, V.int (((h + 1 : Nat) : Int) - 1)] = [V.ref p, V.int (n : Nat), vw, V.int ((h : Nat) : Int)]
      rw [show (((h + 1 : Nat) : Int) - 1) = ((h : Nat) : Int) by omega]
    · intro B5 e5 H5 u w5 j5 hu ⟨x, h1, h2⟩ Q5 q5
      exact rd_addT (F := Fm.box p) (K := K) (B := B5) (by simp only [List.length_cons, List.length_nil]; omega) B5 (Ex.refl B5) H5 u w5 j5 hu h1 Q5 fun z B6 H6 s6 j6 g6 => q5 z B6 H6 s6 j6 ⟨x, g6, h2⟩
    · intro B5 e5 H5 u w5 j5 ⟨x, h1, h2⟩ hw Q5 q5
      refine rd_addT (F := Fm.box p) (K := K) (B := B5) (by simp only [List.length_append, List.length_cons, List.length_nil]; omega) B5 (Ex.refl B5) H5 u w5 j5 h1 hw Q5 fun z B6 H6 s6 j6 g6 => q5 z B6 H6 s6 j6 ⟨_, g6, ?_⟩
      have R := row_app (row_app Rl (row_one h2) (by show dl.length + 1 ≤ 20; omega)) Rr (by rw [List.length_append]; show dl.length + 1 + dr.length ≤ 20; omega)
      rw [show 0 + 1 + 0 = 1 from rfl, show 8 + (17 * h + 1) + 8 = 17 * h + 17 by omega] at R
      exact R
    refine sv_ret (P := fun v B => ∃ d, Dd K B v d ∧ SK n 1 (2 * (h + 1) + 4) (17 * (h + 1) + 1) d) a4 ?_ fun v5 B5 H5 e5 a5 ⟨d, h5, hs5⟩ => fin v5 B5 H5 d a5 h5 hs5
    intro B5 e5 H5 j5 Q5 q5
    refine ev_take (K := K) (m := 2) (B := B4) (p := p) (E := E0) (i := 0) rfl ed_int (by decide) (by decide) B5 e5 H5 j5 _ fun v B6 H6 s6 j6 ⟨k, hk, k0, k1⟩ => ?_
    subst hk
    refine ⟨.int k, .int 0, .int k, .int 0, rfl, rfl, _, rfl, ?_⟩
    rw [eqv_int]
    have e6 := e5.trans s6.bb
    cases hk0 : k == 0 with
    | true =>
      refine ((ed_tup (F := Fm.box p) (K := K) (σ := [some (.ref p), some (.int (n : Nat)), some vw, some (.int ((h + 1 : Nat) : Int)), some vl, some vr, some vx, none]) (B := B4) (ds := [.str "plain", .tuple ds]) (eds_cons ed_str (eds_cons (ed_var (i := 6) rfl hds) eds_nil))).imp fun v B5 _ hv => ⟨_, hv, sk_plain R (by omega)⟩) B6 e6 H6 j6 Q5 fun v B7 H7 s7 j7 g7 => q5 v B7 H7 (s6.trans s7) j7 g7
    | false =>
      refine ((ev_tup3 (F := Fm.box p) (K := K) (σ := [some (.ref p), some (.int (n : Nat)), some vw, some (.int ((h + 1 : Nat) : Int)), some vl, some vr, some vx, none]) (B := B4) (ev_any ed_str) (evp_kind (n := n) rfl rfl n1 n8) (ev_any (ed_var (i := 6) rfl hds))).imp fun v B5 _ hv => (by
        obtain ⟨_, _, _, hv, rfl, ⟨k, rfl, k0, k1⟩, rfl⟩ := hv
        exact ⟨_, hv, sk_graft R (by omega) n8 k0 k1⟩ : ∃ d, Dd K B5 v d ∧ SK n 1 (2 * (h + 1) + 4) (17 * (h + 1) + 1) d)) B6 e6 H6 j6 Q5 fun v B7 H7 s7 j7 g7 => q5 v B7 H7 (s6.trans s7) j7 g7

end
end K20

namespace K20
open PySem PySem.Spec PyProof.Rows L2 Evl Ex Dx
open PySem.PyData (strOk)

section
variable {P : Program} {w : World} {K : PySem.W.Frag} {mg : Str → Option Value} {base : Heap} {f : Addr} {fd : FuncData}
theorem FnOk_ex {CX : CXT} {k N : Nat} {ps : List Str} {sp : Nat → Sp} (F : ∀ h, h ≤ N → FnOk P w K mg base CX k f fd ps (sp h)) : FnOk P w K mg base CX k f fd ps (fun vs H Q E => ∃ h, h ≤ N ∧ sp h vs H Q E) :=
  ⟨fun vs H Q E ⟨h, hh, q⟩ => (F h hh).len vs H Q E q, fun A outer s H args us vs Q E hr he hb hv ⟨h, hh, hs⟩ => (F h hh).run A outer s H args us vs Q E hr he hb hv hs⟩
def spFootU (K : PySem.W.Frag) : Sp := fun vs H Q E => ∃ h, h ≤ 3 ∧ spFootX K (h + 1) vs H Q E
def spSpoilU (K : PySem.W.Frag) (m : Nat) : Sp := fun vs H Q E => ∃ n, n ≤ 5 ∧ spSpoil K n m vs H Q E
/-! ### the trees that are drawn -/
def TG (n : Nat) (t : PyData) : Prop := treeD t n = true ∧ smD 11 t = true
theorem TG.ok {n : Nat} {t : PyData} (h : TG n t) : TrOk n t := ⟨h.1, (smD_sm 11 t h.2).le (by decide), (smD_sw 11 t h.2).2⟩
structure GR (n : Nat) (rs : List PyData) : Prop where
  len : rs.length ≤ 9
  ok : ∀ r ∈ rs, TG n r
  bk : backK (edgesT rs) n = none
theorem edgesT_app (rs : List PyData) (r : PyData) : edgesT (rs ++ [r]) = edgesT rs ++ (if isOneT r = true then [edgeT r] else []) := by
  unfold edgesT
  rw [List.filter_append, List.map_append]
  congr 1
  by_cases h : isOneT r = true
  · rw [if_pos h, List.filter_cons, if_pos h]
    rfl
  · rw [if_neg h, List.filter_cons, if_neg h]
    rfl
theorem GR.snoc0 {n : Nat} {rs : List PyData} {r : PyData} (h : GR n rs) (hl : rs.length < 9) (hr : TG n r) (ho : isOneT r = false) : GR n (rs ++ [r]) := ⟨by rw [List.length_append]; show rs.length + 1 ≤ 9; omega, fun x hx => by
  rcases List.mem_append.mp hx with h1 | h1
  · exact h.ok x h1
  · rw [List.mem_singleton.mp h1]
    exact hr, by
  rw [edgesT_app, ho, if_neg (by decide), List.append_nil]
  exact h.bk⟩
theorem GR.snoc1 {n : Nat} {rs : List PyData} {r : PyData} (h : GR n rs) (hl : rs.length < 9) (hr : TG n r) (ho : backK (edgesT (rs ++ [r])) n = none) : GR n (rs ++ [r]) := ⟨by rw [List.length_append]; show rs.length + 1 ≤ 9; omega, fun x hx => by
  rcases List.mem_append.mp hx with h1 | h1
  · exact h.ok x h1
  · rw [List.mem_singleton.mp h1]
    exact hr, ho⟩
theorem GR.perm {n : Nat} {rs rs' : List PyData} (h : GR n rs) (p : rs'.Perm rs) : GR n rs' := by
  have hok : ∀ r ∈ rs', TG n r := fun r hr => h.ok r (p.mem_iff.mp hr)
  refine ⟨by rw [p.length_eq]; exact h.len, hok, ?_⟩
  have pe : (edgesT rs').Perm (edgesT rs) := (p.filter isOneT).map edgeT
  have b1 := backK_bk (E := edgesT rs) (n := n) fun a b hab => by
    have := edgesT_in (n := (n : Nat)) (fun r hr => (h.ok r hr).1) a b hab
    exact ⟨this.2.2.1, this.2.2.2⟩
  have b2 := backK_bk (E := edgesT rs') (n := n) fun a b hab => by
    have := edgesT_in (n := (n : Nat)) (fun r hr => (hok r hr).1) a b hab
    exact ⟨this.2.2.1, this.2.2.2⟩
  rw [(b2.ext fun q => pe.mem_iff).uniq b1]
  exact h.bk
def spGram (K : PySem.W.Frag) : Sp := fun vs H Q _ => ∃ (a : Addr) (ns : List Int) (B : Hp), vs = [.ref a, .int 9] ∧ Ex B H ∧ SqL K B a (ns.map V.int) ∧ ns.length ≤ 63 ∧
  ∀ v B' H' (n : Nat) (rs : List PyData), Step (fun _ => False) B H B' H' → Dd K B' v (.tuple [.int (n : Nat), .tuple rs]) → 1 ≤ n → n ≤ 8 → rs ≠ [] → GR n rs → Q v H'
/-- data without a list within -/
theorem atom_del {B : Hp} {fa : Addr} {v : V} {d : PyData} (ha : atomD d = true) (h : Dd K B v d) : Dd K (del1 B fa) v d := by
  rcases atom_is ha with ⟨i, rfl, _⟩ | ⟨s, rfl, _⟩
  · rw [dd_int h]
    exact .int i
  · obtain ⟨rfl, hl⟩ := dd_str h
    exact .str s hl
theorem sm_del {B : Hp} {fa : Addr} {acc : List V} (hf : B fa = some (.lst acc)) : ∀ (m : Nat) (d : PyData) (v : V), smD m d = true → Dd K B v d → Dd K (del1 B fa) v d
  | 0, d, v, h, hv => atom_del h hv
  | m + 1, d, v, h, hv => by
    rcases smD_is h with h1 | ⟨ds, rfl, hl, h2⟩
    · exact atom_del h1 hv
    · obtain ⟨a, ys, rfl, h3, h4, h5⟩ := dd_tup hv
      have all : ∀ {vs : List V} {ds : List PyData}, DdAll K B vs ds → (∀ x ∈ ds, smD m x = true) → DdAll K (del1 B fa) vs ds := by
        intro vs ds hd
        induction ds generalizing vs with
        | nil =>
          cases hd
          exact fun _ => .nil
        | cons x ds ih =>
          cases hd with
          | cons a t => exact fun hx => .cons (sm_del hf m x _ (hx x List.mem_cons_self) a) (ih t fun y hy => hx y (List.mem_cons_of_mem _ hy))
      refine .tup ?_ h4 (all h5 h2)
      rcases h3 with (h3 | ⟨o, h3⟩) | h3
      · have n : a ≠ fa := fun z => by rw [z, hf] at h3; cases h3
        exact .inl (.inl (by rw [del1_ne n]; exact h3))
      · have n : a ≠ fa := fun z => by rw [z, hf] at h3; cases h3
        exact .inl (.inr ⟨o, by rw [del1_ne n]; exact h3⟩)
      · exact .inr h3
theorem tg_mk {n : Nat} {k : Int} {x : PyData} (hn : n ≤ 8) (k0 : 0 ≤ k) (k1 : k < (n : Nat)) (hx : SK n 1 10 52 x) (hg : goodL (ND x) = true) : TG n (.tuple [.int k, x]) := by
  refine ⟨?_, smD_tup (by show 2 ≤ 20; decide) fun y hy => ?_⟩
  · show (inB (.int k) 0 ((n : Nat) - 1) && (okN x n && (goodL (ND x) && decide (cnt "foot" (ND x) = 1)))) = true
    rw [inB_ok k0 k1, hx.1, hg, hx.2.1]
    rfl
  · simp only [List.mem_cons, List.mem_nil_iff, or_false] at hy
    rcases hy with rfl | rfl
    · exact smD_atom (atomI hn k0 k1)
    · exact hx.2.2.1
abbrev lastT (k : Int) (u : Str) : PyData := .tuple [.int k, .tuple [.str "plain", .tuple [.tuple [.str "word", .str u], .tuple [.str "foot"]]]]
theorem tg_last {n : Nat} {k : Int} {u : Str} (hn : n ≤ 8) (k0 : 0 ≤ k) (k1 : k < (n : Nat)) (hu : u ∈ W4) : TG n (lastT k u) ∧ isOneT (lastT k u) = false := by
  have s1 : SK n 0 4 1 (.tuple [.str "word", .str u]) := sk_word hu (by decide) (by decide) (by decide)
  have s2 : SK n 1 4 1 (.tuple [.str "foot"]) := sk_foot (by decide) (by decide) (by decide)
  have R := row_app (row_one s1) (row_one s2) (by show 1 + 1 ≤ 20; decide)
  have s3 : SK n (0 + 1) (4 + 2) (1 + 1 + 1) (.tuple [.str "plain", .tuple ([.tuple [.str "word", .str u]] ++ [.tuple [.str "foot"]])]) := sk_plain R (by decide)
  have d1 := smD_dep s1.2.2.1 (by decide)
  have d2 := smD_dep s2.2.2.1 (by decide)
  have d3 := smD_dep s3.2.2.1 (by decide)
  have nd : ND (.tuple [.str "plain", .tuple ([.tuple [.str "word", .str u]] ++ [.tuple [.str "foot"]])]) = [.tuple [.str "plain", .tuple ([.tuple [.str "word", .str u]] ++ [.tuple [.str "foot"]])], .tuple [.str "word", .str u], .tuple [.str "foot"]] := by
    rw [ND_eq d3, kids_plain, List.flatMap_append, List.flatMap_cons, List.flatMap_nil, List.flatMap_cons, List.flatMap_nil, ND_eq d1, kids_word, ND_eq d2, kids_foot]
    rfl
  have hg : goodL (ND (.tuple [.str "plain", .tuple ([.tuple [.str "word", .str u]] ++ [.tuple [.str "foot"]])])) = true := by
    have h1 : isS (.str "word") "word" = true := by decide +kernel
    unfold goodL wgD
    rw [nd, List.any_cons, List.any_cons]
    show (decide (3 ≤ 12) && (_ || ((isS (.str "word") "word" || _) || _))) = true
    rw [h1]
    simp
  refine ⟨tg_mk hn k0 k1 ⟨s3.1, s3.2.1, smD_le s3.2.2.1 (by decide), Nat.le_trans s3.2.2.2 (by decide)⟩ hg, ?_⟩
  have hc : cnt "word" (ND (.tuple [.str "plain", .tuple ([.tuple [.str "word", .str u]] ++ [.tuple [.str "foot"]])])) = 1 := by
    rw [nd, cnt_cons, cnt_cons, cnt_cons]
    exact (by decide +kernel : 0 + (if isS (.str "foot") "word" = true then 1 else 0) + (if isS (.str "word") "word" = true then 1 else 0) + (if isS (.str "plain") "word" = true then 1 else 0) = 1)
  have hi : isOneT (lastT k u) = (decide (cnt "word" (ND (.tuple [.str "plain", .tuple ([.tuple [.str "word", .str u]] ++ [.tuple [.str "foot"]])])) = 0) && decide ((grafts (.tuple [.str "plain", .tuple ([.tuple [.str "word", .str u]] ++ [.tuple [.str "foot"]])])).length = 1)) := rfl
  rw [hi, hc]
  rfl
def pK (i : Int) (r : PyData) : Bool := match r with
  | .tuple [x, y] => PyData.eqv x (.int i) && decide ((grafts y).length = 0)
  | _ => false

abbrev s_law_forest : Stmt := topS 45
abbrev N_law_forest : List Str := ["script", "most", "box", "kinds", "words", "trees", "k", "tree", "kind", "one"]
theorem sc_law_forest : FnScope N_law_forest ["script", "most"] (defScope s_law_forest) := ⟨rfl, rfl, rfl, by decide +kernel, rfl, by decide +kernel, by decide +kernel⟩
set_option maxHeartbeats 16000000 in
theorem ok_forest (F : Fun K "_law_forest" "_law_forest" s_law_forest f fd) (T : TC K mg) (C_law_box : Callee P w K mg base "_law_box" 1 ["script", "k"] (spBoxN K)) (C_law_take : Callee P w K mg base "_law_take" 1 ["box", "many"] (spTake K)) (C_law_pick : Callee P w K mg base "_law_pick" 2 ["box", "some"] (spPick K))
    (C_law_foot_knot : Callee P w K mg base "_law_foot_knot" 9 ["box", "kinds", "words", "deep"] (spFootU K)) (C_law_is_good_tree : Callee P w K mg base "_law_is_good_tree" 21 ["tree"] (spF K preGood fGood)) (C_law_knots : Callee P w K mg base "_law_knots" 20 ["knot"] (spF K (preLK 19) fAll))
    (C_law_tree_steps : Callee P w K mg base "_law_tree_steps" 21 ["trees"] (spF K preTs fTs)) (C_law_back_kind : Callee P w K mg base "_law_back_kind" 1 ["steps", "kinds"] (spF K preBack fBack)) (C_law_shuffled : Callee P w K mg base "_law_shuffled" 2 ["box", "some"] (spShuf K)) : FnOk P w K mg base CX0 22 f fd ["script", "most"] (spGram K) := by
  refine F.ok sc_law_forest (fun vs H Q E h => ?_) (fun cdv A outer s H vs Q E hr h => ?_)
  · obtain ⟨a, ns, B, rfl, _⟩ := h
    rfl
  · obtain ⟨a, ns, B, rfl, e, hS, hl, q⟩ := h
    have hu64 : (A.deeper (envOfC "_law_forest" (defScope s_law_forest) s.heap.objs.size f cdv)).units + 64 < cLine := hr.units
    refine ⟨_, (pss_cons (ps_set (i := 2) sc_law_forest.nd rfl (Or.inl rfl) (pe_callC C_law_box (hr.mono (by decide)) rfl pass0 (pa_cons (pv 0) (pa_cons pe_int pa_nil))))
      (pss_cons (ps_set (i := 3) sc_law_forest.nd rfl (Or.inl rfl) (pe_callC C_law_pick (hr.mono (by decide)) rfl pass0 (pa_cons (pv 2) (pa_cons (pe_lst (pa_cons pe_int (pa_cons pe_int (pa_cons pe_int (pa_cons pe_int (pa_cons pe_int (pa_cons pe_int (pa_cons pe_int pa_nil)))))))) pa_nil))))
      (pss_cons (ps_set (i := 4) sc_law_forest.nd rfl (Or.inl rfl) (pe_callC C_law_pick (hr.mono (by decide)) rfl pass0 (pa_cons (pv 2) (pa_cons (pe_lst (pa_cons (pe_lst (pa_cons pe_str pa_nil)) (pa_cons (pe_lst (pa_cons pe_str (pa_cons pe_str pa_nil))) (pa_cons (pe_lst (pa_cons pe_str (pa_cons pe_str (pa_cons pe_str pa_nil)))) (pa_cons (pe_lst (pa_cons pe_str (pa_cons pe_str pa_nil))) pa_nil))))) pa_nil))))
      (pss_cons (ps_set (i := 5) sc_law_forest.nd rfl (Or.inl rfl) (pe_lst pa_nil))
      (pss_cons (ps_for PassesOwn.never rfl (pi_range1 rfl T.m_range (pa_cons (pe_op (op_addK K) pe_int (pe_callC C_law_take (hr.mono (by decide)) rfl pass0 (pa_cons (pv 2) (pa_cons (pe_op op_sub (pv 1) pe_int) pa_nil)))) pa_nil)) (pg_name (i := 6) sc_law_forest.nd rfl (Or.inl rfl)) (pss_cons (ps_set (i := 7) sc_law_forest.nd rfl (Or.inl rfl) (pe_tup (pa_cons (pe_callC C_law_take (hr.mono (by decide)) rfl pass0 (pa_cons (pv 2) (pa_cons (pv 3) pa_nil))) (pa_cons (pe_callC C_law_foot_knot (hr.mono (by decide)) rfl pass0 (pa_cons (pv 2) (pa_cons (pv 3) (pa_cons (pv 4) (pa_cons (pe_op (op_addK K) pe_int (pe_callC C_law_take (hr.mono (by decide)) rfl pass0 (pa_cons (pv 2) (pa_cons pe_int pa_nil)))) pa_nil))))) pa_nil))))
      (pss_one (ps_if (PW.pt (pw_and (pt_val (pe_callC C_law_is_good_tree (hr.mono (by decide)) rfl pass0 (pa_cons (pv 7) pa_nil))) (pw_and1 (pt_cmpR op_isN (pe_callC C_law_back_kind (hr.mono (by decide)) rfl pass0 (pa_cons (pe_callC C_law_tree_steps (hr.mono (by decide)) rfl pass0 (pa_cons (pe_op (op_addK K) (pv 5) (pe_lst (pa_cons (pv 7) pa_nil))) pa_nil)) (pa_cons (pv 3) pa_nil))) pe_non (nomark _))))) (pss_one (ps_expr (pe_bm PySem.F.plainAttrs_list PySem.F.slot_list_append PySem.F.type_list_append mt_append (pv 5) (pa_cons (pv 7) pa_nil)))) pss_nil))))
      (pss_cons (ps_for PassesOwn.never rfl (pi_range1 rfl T.m_range (pa_cons (pv 3) pa_nil)) (pg_name (i := 8) sc_law_forest.nd rfl (Or.inr rfl)) (pss_one (ps_if (PW.pt (pw_and (pt_cmpR op_lt (pe_callB (call_lenK K) (by rfl) T.m_len bt_len (pa_cons (pv 5) pa_nil)) (pv 1) (nomark _)) (pw_and1 (pt_cmpR (op_eqDK K hu64) (pe_lc (own := [("tree", 7)]) rfl sc_law_forest.nd (pi_seqK K (pv 5)) (blkOk_by (own := [("tree", 7)]) (N := N_law_forest) (sc := defScope s_law_forest) (by decide +kernel)) (fun _ _ _ _ _ => pg_name (i := 7) sc_law_forest.nd rfl (Or.inl rfl)) (fun _ _ _ _ _ => (pts_one (PW.pt (pw_and (pt_cmpR (op_eqDK K hu64) (pe_ix (ix_seqK K) (pv 7) pe_int (fun _ _ => rfl)) (pv 8) (nomark _)) (pw_and1 (pt_cmpR (op_eqDK K hu64) (pe_lc (own := [("one", 9)]) rfl sc_law_forest.nd (pi_seqK K (pe_callC C_law_knots (hr.mono (by decide)) rfl pass0 (pa_cons (pe_ix (ix_seqK K) (pv 7) pe_int (fun _ _ => rfl)) pa_nil))) (blkOk_by (own := [("one", 9)]) (N := N_law_forest) (sc := { kind := .function, names := [(".0", .local), ("tree", .local), ("_law_knots", .globalImplicit), ("kind", .cell)], isGenerator := false, isCoroutine := false }) (by decide +kernel)) (fun _ _ _ _ _ => pg_name (i := 9) sc_law_forest.nd rfl (Or.inl rfl)) (fun _ _ _ _ _ => (pts_one (pt_cmpR (op_eqDK K hu64) (pe_ix (ix_seqK K) (pv 9) pe_int (fun _ _ => rfl)) pe_str (nomark _)))) (fun _ _ _ _ _ => (pv 9))) (pe_lst pa_nil) (nomark _))))))) (fun _ _ _ _ _ => (pv 7))) (pe_lst pa_nil) (nomark _))))) (pss_one (ps_expr (pe_bm PySem.F.plainAttrs_list PySem.F.slot_list_append PySem.F.type_list_append mt_append (pv 5) (pa_cons (pe_tup (pa_cons (pv 8) (pa_cons (pe_tup (pa_cons pe_str (pa_cons (pe_tup (pa_cons (pe_tup (pa_cons pe_str (pa_cons (pe_callC C_law_pick (hr.mono (by decide)) rfl pass0 (pa_cons (pv 2) (pa_cons (pv 4) pa_nil))) pa_nil))) (pa_cons (pe_tup (pa_cons pe_str pa_nil)) pa_nil))) pa_nil))) pa_nil))) pa_nil)))) pss_nil)))
      (pss_one (ps_ret (pe_tup (pa_cons (pv 3) (pa_cons (pe_callTy (call_tuple_ofK K) (by rfl) T.m_tuple bt_tuple (pa_cons (pe_callC C_law_shuffled (hr.mono (by decide)) rfl pass0 (pa_cons (pv 2) (pa_cons (pv 5) pa_nil))) pa_nil)) pa_nil))))))))))), ?_⟩
    refine ⟨.ref a, rfl, a, 0, ns, B, rfl, e, hS, hl, by decide, by decide, fun p B1 H1 hp s1 k1 => ?_⟩
    have a1 : At (Fm.box p) B1 H1 B1 H1 := At.start k1
    refine qv_asg (P := fun v _ => ∃ n : Nat, v = .int (n : Nat) ∧ 1 ≤ n ∧ n ≤ 8) a1 ((ev_pick (d := .list [.int 1, .int 2, .int 2, .int 3, .int 3, .int 5, .int 8]) rfl (ed_lst (eds_cons ed_int (eds_cons ed_int (eds_cons ed_int (eds_cons ed_int (eds_cons ed_int (eds_cons ed_int (eds_cons ed_int eds_nil)))))))) (.inl rfl) (fun z => nomatch z) (by show 7 < 1073741824; decide)).imp fun v B1 _ ⟨x, hx, hv⟩ => by
      simp only [List.mem_cons, List.mem_nil_iff, or_false] at hx
      rcases hx with rfl | rfl | rfl | rfl | rfl | rfl | rfl
      · exact ⟨1, dd_int hv, by decide, by decide⟩
      · exact ⟨2, dd_int hv, by decide, by decide⟩
      · exact ⟨2, dd_int hv, by decide, by decide⟩
      · exact ⟨3, dd_int hv, by decide, by decide⟩
      · exact ⟨3, dd_int hv, by decide, by decide⟩
      · exact ⟨5, dd_int hv, by decide, by decide⟩
      · exact ⟨8, dd_int hv, by decide, by decide⟩) fun vn B2 H2 e2 a2 ⟨n, hn, n1, n8⟩ => ?_
    subst hn
    refine qv_asg (P := fun v B => ∃ ws : List Str, Dd K B v (.list (ws.map .str)) ∧ ws ≠ [] ∧ ws.length ≤ 3 ∧ ∀ u ∈ ws, u ∈ W4) a2 ((ev_pick (d := .list [.list ((["a"] : List Str).map .str), .list ((["a", "ab"] : List Str).map .str), .list ((["a", "ab", "b"] : List Str).map .str), .list ((["b", "aab"] : List Str).map .str)]) rfl (ed_lst (eds_cons (ed_lst (eds_cons ed_str eds_nil)) (eds_cons (ed_lst (eds_cons ed_str (eds_cons ed_str eds_nil))) (eds_cons (ed_lst (eds_cons ed_str (eds_cons ed_str (eds_cons ed_str eds_nil)))) (eds_cons (ed_lst (eds_cons ed_str (eds_cons ed_str eds_nil))) eds_nil))))) (.inl rfl) (fun z => nomatch z) (by show 4 < 1073741824; decide)).imp fun v B1 _ ⟨x, hx, hv⟩ => by
      simp only [List.mem_cons, List.mem_nil_iff, or_false] at hx
      rcases hx with rfl | rfl | rfl | rfl
      · exact ⟨_, hv, fun z => (nomatch z), by decide, by decide +kernel⟩
      · exact ⟨_, hv, fun z => (nomatch z), by decide, by decide +kernel⟩
      · exact ⟨_, hv, fun z => (nomatch z), by decide, by decide +kernel⟩
      · exact ⟨_, hv, fun z => (nomatch z), by decide, by decide +kernel⟩) fun vw B3 H3 e3 a3 ⟨ws, hw, hw0, hw3, hwm⟩ => ?_
    refine ⟨Nat.zero_le _, fun fa hfa => ?_⟩
    have k3 := a3.j
    have nfp : fa ≠ p := fun z => (Fm.box p).lv H3 p k3.j rfl (z ▸ hfa)
    obtain ⟨B', acc, s', k', hb, hd, ha⟩ := cq_start (K := K) k3 hfa
    have evr : EV (Fm.box p) (tOp (rAddA K) (tC (.int 2)) (tCall (spTake K) [] E0 (tCons (tVar 2) (tCons (tOp (rI0 fun i j => .int (i - j)) (tVar 1) (tC (.int 1))) tNil)))) [some (.ref a), some (.int 9), some (.ref p), some (.int (n : Nat)), some vw, some (.ref fa), none, none, none, none] B' (fun v _ => ∃ m : Int, v = .int m ∧ 0 ≤ m ∧ m ≤ 9) := ev_op (P := DD K (.int 2)) (P' := fun v _ => ∃ m : Int, v = .int m ∧ 0 ≤ m ∧ m < 8) ed_int (ev_take (m := 8) rfl (ed_op (ed_var rfl (.int 9)) ed_int rd_sub) (by decide) (by decide)) upc_dd fun B6 _ H6 u v j6 hu ⟨m, hv, m0, m1⟩ Q q => .inl ⟨2, m, dd_int hu, hv, q _ B6 H6 (Step.refl j6.e) j6 ⟨2 + m, rfl, by omega, by omega⟩⟩
    refine evr B' (Ex.refl B') _ k' _ fun vm B4 H4 s4 k4 ⟨m, hm, m0, m9⟩ => ?_
    subst hm
    refine ⟨m, rfl, by omega, by omega, for_range (lo := 0) (n := m.toNat) (fun i σ' H' => (∃ o6 o7 o8 o9, σ' = [some (.ref a), some (.int 9), some (.ref p), some (.int (n : Nat)), some vw, some (.ref fa), o6, o7, o8, o9]) ∧ ∃ rs, rs.length ≤ i ∧ GR n rs ∧ Cq (Fm.box p) K B3 H3 fa rs H') ⟨⟨_, _, _, _, rfl⟩, [], Nat.le_refl _, ⟨by decide, fun r h => (nomatch h), backK_none fun k hk => ?_⟩, cq_pass hfa k3 s' hb hd ha s4 k4⟩ (fun i σ' H' hi ⟨⟨o6, o7, o8, o9, ho⟩, rs, hri, G, B', acc, s', k', hb, hd, ha⟩ => ?_) (fun σ' H' ⟨⟨o6, o7, o8, o9, ho⟩, rs, hri, G, c⟩ => ?_)⟩
    · cases hh : (Gm.turns (edgesT []) (k : Int) (n + 1)).contains (k : Int) with
      | false => rfl
      | true =>
        have h1 := Gm.turns_sound _ _ (List.contains_iff_mem.mp hh)
        cases h1 with
        | one e => cases e
        | more _ e => cases e
    · subst ho
      have hlt : rs.length < 9 := by omega
      obtain ⟨kx, dx⟩ := cq_open hfa k3 k' hb hd ha (by omega)
      have eB3 : Ex B3 (upd B' fa (.lst acc)) := s'.bb.trans (Ex.new hb)
      have aX : At (Fm.box p) (upd B' fa (.lst acc)) H' (upd B' fa (.lst acc)) H' := At.start kx
      have evf : EV (Fm.box p) (tCall (spFootU K) [] E0 (tCons (tVar 2) (tCons (tVar 3) (tCons (tVar 4) (tCons (tOp (rAddA K) (tC (.int 1)) (tCall (spTake K) [] E0 (tCons (tVar 2) (tCons (tC (.int 3)) tNil)))) tNil))))) [some (.ref a), some (.int 9), some (.ref p), some (.int (n : Nat)), some vw, some (.ref fa), some (.int (0 + (i : Nat))), o7, o8, o9] (upd B' fa (.lst acc)) (fun v B => ∃ d, Dd K B v d ∧ SK n 1 10 52 d) := by
        intro B5 e5 H5 j5 Q5 q5
        refine ⟨.ref p, rfl, .int (n : Nat), rfl, vw, rfl, ?_⟩
        refine ev_take (K := K) (m := 3) (B := upd B' fa (.lst acc)) (p := p) (E := E0) (i := 2) rfl ed_int (by decide) (by decide) B5 e5 H5 j5 _ fun v B6 H6 s6 j6 ⟨c, hc, c0, c1⟩ => ?_
        subst hc
        refine .inl ⟨1, c, rfl, rfl, (c + 1).toNat, by omega, p, vw, B6, n, ws, ?_, j6, hw.up ((eB3.trans e5).trans s6.bb), hw0, by omega, hwm, n1, n8, fun v' B' H' d s' k' g' hs' => q5 v' B' H' (s6.trans s') k' ⟨d, g', hs'.1, hs'.2.1, smD_le hs'.2.2.1 (by omega), Nat.le_trans hs'.2.2.2 (by omega)⟩⟩
        show [V.ref p, V.int (n : Nat), vw, V.int (1 + c)] = [V.ref p, V.int (n : Nat), vw, V.int (((c + 1).toNat : Nat) : Int)]
        rw [show (((c + 1).toNat : Nat) : Int) = 1 + c by omega]
      refine qv_asg aX (ev_tup2 (evp_kind (n := n) rfl rfl n1 n8) evf) fun vt B5 H5 e5 a5 hh5 => ?_
      obtain ⟨_, x, hvt, ⟨k, rfl, k0, k1'⟩, hx⟩ := hh5
      have hsx : SW 11 x := smD_sw 10 x hx.2.2.1
      have hgd : ∀ B6, Ex B5 B6 → ED (Fm.box p) K (tCall (spF K preGood fGood) [] E0 (tCons (tVar 7) tNil)) [some (.ref a), some (.int 9), some (.ref p), some (.int (n : Nat)), some vw, some (.ref fa), some (.int (0 + (i : Nat))), some vt, o8, o9] B6 (.bool (goodL (ND x))) := fun B6 e6 => ed_F (eds_cons (ed_var rfl (hvt.up e6)) eds_nil) ⟨_, x, n, rfl, hx.1, hsx.1.le (by decide), hsx.2, by have := hx.2.2.2; omega⟩ rfl
      refine sv_if (b := goodL (ND x) && isNon (optD (backK (edgesT (rs ++ [.tuple [.int k, x]])) n))) a5 (et_and (et_val (hgd B5 (Ex.refl _))) fun hgood => ?_) (fun hbn B9 H9 e9 a9 => ?_) (fun hbn B9 H9 e9 a9 => ?_)
      · have hTG := tg_mk n8 k0 k1' hx hgood
        have hall : ∀ y ∈ rs ++ [.tuple [.int k, x]], TrOk n y := fun y hy => by
          rcases List.mem_append.mp hy with h | h
          · exact (G.ok y h).ok
          · rw [List.mem_singleton.mp h]
            exact hTG.ok
        have hlen : (rs ++ [PyData.tuple [.int k, x]]).length ≤ 100 := by rw [List.length_append]; show rs.length + 1 ≤ 100; omega
        exact et_cmp (ed_op (ed_F (eds_cons (ed_F (z := .list ((edgesT (rs ++ [.tuple [.int k, x]])).map toD)) (eds_cons (ed_op (ed_var rfl (dx.up e5)) (ed_lst (eds_cons (ed_var rfl hvt) eds_nil)) (rd_addL (by show rs.length + 1 ≤ 16777216; omega))) eds_nil) ⟨_, rs ++ [.tuple [.int k, x]], n, rfl, .inl rfl, hlen, hall⟩ rfl) (eds_cons (ed_var rfl (.int (n : Nat))) eds_nil)) ⟨edgesT (rs ++ [.tuple [.int k, x]]), n, rfl, Nat.le_trans (edgesT_len _) hlen, by omega⟩ (by show optD (backK (((edgesT (rs ++ [.tuple [.int k, x]])).map toD).map ofD) ((n : Int)).toNat) = _; rw [ofD_toD]; rfl)) ed_non rd_isN)
      · rw [Bool.and_eq_true] at hbn
        have hTG := tg_mk n8 k0 k1' hx hbn.1
        obtain ⟨s10, k10, e10, hd10⟩ := cq_close hfa k3 s' hb hd a9.st a9.j
        have hB9 : B9 fa = some (.lst acc) := a9.st.bb _ _ upd_same
        refine ⟨.ref fa, rfl, .inl ⟨rfl, _, sq_of hd10⟩, vt, rfl, fa, acc, vt, rfl, rfl, hd10, by rw [ha.len, sizeLine_eq]; omega, ?_⟩
        refine ⟨⟨_, _, _, _, rfl⟩, rs ++ [.tuple [.int k, x]], by rw [List.length_append]; show rs.length + 1 ≤ i + 1; omega, G.snoc1 hlt hTG ?_, cq_set hfa k3 s10 k10 del1_same ((ha.up e10).snoc (sm_del hB9 11 _ _ hTG.2 (hvt.up e9)))⟩
        cases hh : backK (edgesT (rs ++ [.tuple [.int k, x]])) n with
        | none => rfl
        | some b => rw [hh] at hbn; cases hbn.2
      · obtain ⟨s10, k10, e10, hd10⟩ := cq_close hfa k3 s' hb hd a9.st a9.j
        exact ⟨⟨_, _, _, _, rfl⟩, rs, by omega, G, _, acc, s10, k10, del1_same, hd10, ha.up e10⟩
    subst ho
    refine ⟨.int (n : Nat), rfl, (n : Nat), rfl, by omega, by omega, for_range (lo := 0) (n := ((n : Nat) : Int).toNat) (fun i σ' H' => (∃ o6 o7 o8 o9, σ' = [some (.ref a), some (.int 9), some (.ref p), some (.int (n : Nat)), some vw, some (.ref fa), o6, o7, o8, o9]) ∧ ∃ rs, GR n rs ∧ (0 < i → rs ≠ []) ∧ Cq (Fm.box p) K B3 H3 fa rs H') ⟨⟨_, _, _, _, rfl⟩, rs, G, fun h => absurd h (Nat.lt_irrefl 0), c⟩ (fun i σ' H' hi ⟨⟨o6, o7, o8, o9, ho⟩, rs, G, hne, B', acc, s', k', hb, hd, ha⟩ => ?_) (fun σ' H' ⟨⟨o6, o7, o8, o9, ho⟩, rs, G, hne, c⟩ => ?_)⟩
    · subst ho
      have hlen9 := G.len
      have hi' : i < n := by omega
      obtain ⟨kx, dx⟩ := cq_open hfa k3 k' hb hd ha (by omega)
      have eB3 : Ex B3 (upd B' fa (.lst acc)) := s'.bb.trans (Ex.new hb)
      have aX : At (Fm.box p) (upd B' fa (.lst acc)) H' (upd B' fa (.lst acc)) H' := At.start kx
      refine sv_if (b := decide (((rs.length : Nat) : Int) < 9) && PyData.eqv (.list ((rs.filter (pK (0 + (i : Nat)))).map fun d => d)) (.list [])) aX (et_and (et_cmp (K := K) (ed_op (ev_cb (eds_cons (ed_var rfl dx) eds_nil) (rc_len (x := .list rs) rfl)) (ed_var rfl (.int 9)) rd_lt)) fun _ => et_cmp (ed_op (ed_lcD (pK (0 + (i : Nat))) (fun d => d) (ev_seqL (ed_var rfl dx)) (by omega) (fun _ => rfl) (fun d v B5 hm _ hdv => ?_) (fun d v B5 _ _ _ hdv => ed_var rfl hdv)) (ed_lst eds_nil) (rd_eqD (Sm.sh (sm_filter (n := 20) fun d hd => (G.ok d hd).ok.2.1)) rfl))) (fun hbt B6 H6 e6 a6 => ?_) (fun hbt B6 H6 e6 a6 => ?_)
      · obtain ⟨k, x, rfl, TI, hsx, hwx⟩ := (G.ok d hm).ok.is
        refine et_and (c := decide ((grafts x).length = 0)) (et_cmp (K := K) (ed_op (ed_op (ed_var rfl hdv) ed_int (rd_ixT atc_0)) (ed_var rfl (.int _)) (rd_eqD rfl rfl))) fun _ => ?_
        refine et_is (et_cmp (K := K) (ed_op (ed_lcD (ds := ND x) (fun y => isS (hdD y) "graft") (fun y => y) (ev_seqL (ed_F (eds_cons (ed_op (ed_var rfl hdv) ed_int (rd_ixT atc_1)) eds_nil) ⟨x, n, rfl, TI.ok, hsx.2, hsx.le (by decide), hwx, by have := TI.len; omega⟩ rfl)) (by have := TI.len; omega) (fun _ => rfl) (fun y u B3 hm _ hu => et_hd rfl hu (okN_mem TI.ok hm) (by decide) (by decide +kernel)) (fun y u B3 hm hp _ hu => ed_var rfl hu)) (ed_lst eds_nil) (rd_eqD (Sm.sh (sm_filter (n := 60) fun y hy => kn_sm (n := n) (hsx.le (by decide)) (by decide) hy)) rfl))) filt_nil
      · rw [Bool.and_eq_true, decide_eq_true_eq] at hbt
        have hlt : rs.length < 9 := by omega
        have hd6 : H6 fa = some (.lst acc) := a6.st.keep fa _ nfp hd
        refine ⟨.ref fa, rfl, .inl ⟨rfl, _, sq_of hd6⟩, ?_⟩
        have evt : EV (Fm.box p) (tTup (tCons (tVar 8) (tCons (tTup (tCons (tC (.str "plain")) (tCons (tTup (tCons (tTup (tCons (tC (.str "word")) (tCons (tCall (spPick K) [] E0 (tCons (tVar 2) (tCons (tVar 4) tNil))) tNil))) (tCons (tTup (tCons (tC (.str "foot")) tNil)) tNil))) tNil))) tNil))) [some (.ref a), some (.int 9), some (.ref p), some (.int (n : Nat)), some vw, some (.ref fa), o6, o7, some (.int (0 + (i : Nat))), o9] B6 (fun v B => ∃ u, Dd K B v (lastT (0 + (i : Nat)) u) ∧ u ∈ W4) :=
          (ev_tup2 (ev_any (ed_var rfl (.int _))) ((ev_tup2 (ev_any ed_str) ((ev_tup2 ((ev_tup2 (ev_any ed_str) (ev_word (ws := ws) rfl rfl (hw.up (eB3.trans e6)) hw0 (by omega) hwm)).imp (Z := fun v B => ∃ d, Dd K B v d ∧ ∃ u, d = .tuple [.str "word", .str u] ∧ u ∈ W4) fun v B _ h => (by
            obtain ⟨_, _, h, rfl, u, rfl, hu⟩ := h
            exact ⟨_, h, u, rfl, hu⟩)) (ev_any (ed_tup (eds_cons ed_str eds_nil)))).imp (Z := fun v B => ∃ d, Dd K B v d ∧ ∃ u, d = .tuple [.tuple [.str "word", .str u], .tuple [.str "foot"]] ∧ u ∈ W4) fun v B _ h => (by
            obtain ⟨_, _, h, ⟨u, rfl, hu⟩, rfl⟩ := h
            exact ⟨_, h, u, rfl, hu⟩))).imp (Z := fun v B => ∃ d, Dd K B v d ∧ ∃ u, d = .tuple [.str "plain", .tuple [.tuple [.str "word", .str u], .tuple [.str "foot"]]] ∧ u ∈ W4) fun v B _ h => (by
            obtain ⟨_, _, h, rfl, u, rfl, hu⟩ := h
            exact ⟨_, h, u, rfl, hu⟩))).imp fun v B _ h => by
            obtain ⟨_, _, h, rfl, u, rfl, hu⟩ := h
            exact ⟨u, h, hu⟩
        refine evt B6 (Ex.refl B6) H6 a6.j _ fun vr B7 H7 s7 k7 ⟨u, hvr, hu⟩ => ?_
        have a7 := a6.next s7 k7
        obtain ⟨s10, k10, e10, hd10⟩ := cq_close hfa k3 s' hb hd a7.st a7.j
        obtain ⟨hTG, hno⟩ := tg_last (n := n) (k := 0 + (i : Nat)) n8 (by omega) (by omega) hu
        have hB7 : B7 fa = some (.lst acc) := a7.st.bb _ _ upd_same
        refine ⟨fa, acc, vr, rfl, rfl, hd10, by rw [ha.len, sizeLine_eq]; omega, ?_⟩
        exact ⟨⟨_, _, _, _, rfl⟩, _, G.snoc0 hlt hTG hno, fun _ => by simp, cq_set hfa k3 s10 k10 del1_same ((ha.up e10).snoc (sm_del hB7 11 _ _ hTG.2 hvr))⟩
      · obtain ⟨s10, k10, e10, hd10⟩ := cq_close hfa k3 s' hb hd a6.st a6.j
        refine ⟨⟨_, _, _, _, rfl⟩, rs, G, fun _ hrs => ?_, _, acc, s10, k10, del1_same, hd10, ha.up e10⟩
        rw [hrs, show ((([] : List PyData).filter (pK (0 + (i : Nat)))).map fun d => d) = [] from rfl, eqv_nil] at hbt
        cases hbt
    subst ho
    have hrs : rs ≠ [] := hne (by omega)
    have hlen9 := G.len
    obtain ⟨B5, s5, k5, g5⟩ := cq_done k3 hfa (by omega) c
    have a6 : At (Fm.box p) B1 H1 B5 H' := a3.next s5 k5
    dsimp only
    refine sv_ret (P := fun v B => ∃ rs', Dd K B v (.tuple [.int (n : Nat), .tuple rs']) ∧ rs' ≠ [] ∧ GR n rs') a6 ?_ fun v B7 H7 e7 a7 ⟨rs', h7, hne', G7⟩ => q v B7 H7 n rs' (step_box hp s1 a7.st) h7 n1 n8 hne' G7
    intro B7 e7 H7 k7 Q7 q7
    refine ⟨.int (n : Nat), rfl, .ref p, rfl, .ref fa, rfl, p, .ref fa, B7, rs, rfl, k7, g5.up e7, by omega, fun v8 B8 H8 rs8 s8 k8 h8 hp8 => ?_⟩
    obtain ⟨l, ys, rfl, g1, g2, g3⟩ := dd_lst h8
    refine ⟨l, ys, rfl, .inl ⟨sq_of (k8.e _ _ g1), fun t ht => ?_⟩⟩
    refine ⟨by show 2 ≤ sizeLine; decide, fun u hu => ?_⟩
    have s9 : Step (fun a => a = p) B8 H8 _ _ := Step.alloc (o := .tup ys) k8.e ht
    have k9 := k8.alloc (o := .tup ys) ht
    have bt : B8 t = none := fresh_back k8.e ht
    have bu := fresh_back k9.e hu
    refine q7 (.ref u) _ _ ((s8.trans s9).trans (Step.alloc k9.e hu)) (k9.alloc hu) ⟨rs8, .tup (st_of upd_same) (by show 2 ≤ sizeLine; decide) (.cons (.int _) (.cons (Dd.up (.tup (st_of upd_same) g2 (g3.up (Ex.new bt))) (Ex.new bu)) .nil)), fun z => ?_, G.perm hp8⟩
    rw [z] at hp8
    exact hrs (List.Perm.nil_eq hp8).symm

end
end K20

namespace K20
open PySem PySem.Spec PyProof.Rows L2 Evl Ex Dx
open PySem.PyData (strOk)

section
variable {P : Program} {w : World} {K : PySem.W.Frag} {mg : Str → Option Value} {base : Heap} {f : Addr} {fd : FuncData}
variable {c0 c1 c2 CP : Addr}

/-! ### the list of cases, while it grows -/
def CL (K : PySem.W.Frag) (p : Addr) (B1 H1 Bq : Hp) (v : V) (ds : List PyData) (H' : Hp) : Prop := ∃ fa B' acc, v = .ref fa ∧ H1 fa = none ∧ Step (fun a => a = p) B1 H1 B' H' ∧ Ok (Fm.box p) B' H' ∧ B' fa = none ∧ H' fa = some (.lst acc) ∧ DdAll K B' acc ds ∧ Ex Bq B'
section
variable {p : Addr} {B1 H1 Bq H' : Hp} {v : V} {ds es : List PyData} {σ : L2.St} {tas : TA} {tb te tl : TE} {D : Ends} {tz tbd : TS} {j : Nat}
theorem cl_nfp {fa : Addr} (k : Ok (Fm.box p) B1 H1) (h : H1 fa = none) : fa ≠ p := fun z => (Fm.box p).lv H1 p k.j rfl (z ▸ h)
theorem cl_of {fa : Addr} {B' : Hp} {acc : List V} (hD : H1 fa = none) (k1 : Ok (Fm.box p) B1 H1) (s : Step (fun a => a = p) B1 H1 B' H') (k : Ok (Fm.box p) B' H') (hb : B' fa = none) (ha : DdAll K B' acc ds) (e : Ex Bq B') : CL K p B1 H1 Bq (.ref fa) ds (upd H' fa (.lst acc)) := by
  have nm := cl_nfp k1 hD
  have s2 : Step (fun a => a = p) B1 H1 B' (upd H' fa (.lst acc)) := ⟨s.bb, fun a o h => by rw [upd_ne (ne_of_none h hb)]; exact k.e a o h, fun a o n h => by rw [upd_ne (ne_of_none h hD)]; exact s.keep a o n h, s.sep, fun a n => by
    have ha : a ≠ fa := fun z => n (z ▸ hD)
    rw [upd_ne ha]
    exact s.live a n⟩
  exact ⟨fa, B', acc, rfl, hD, s2, k1.next s2 ((Fm.box p).fr H' fa _ k.j nm), hb, upd_same, ha, e⟩
theorem dead {p2 : Addr} {H5 B5 : Hp} (s : Step (fun a => a = p) B1 H1 B5 H5) (h : H5 p2 = none) : H1 p2 = none := by
  cases hh : H1 p2 with
  | none => rfl
  | some o => exact absurd h (s.live p2 (by rw [hh]; exact fun z => nomatch z))
theorem cl_new (k : Ok (Fm.box p) B1 H1) (h : EDs (Fm.box p) K tas σ B1 ds) (hl : ds.length ≤ 1000) (q : ∀ v H', CL K p B1 H1 B1 v ds H' → tz D (σ.set 6 (some v)) H') : tSeq (tAsg (tLst tas) (gName 6)) tz D σ H1 :=
  h B1 (Ex.refl B1) H1 k _ fun vs B2 H2 s2 k2 g => ⟨by rw [DdAll.len g, sizeLine_eq]; omega, fun fa hfa => q (.ref fa) _ (cl_of (dead s2 hfa) k s2 k2 (fresh_back k2.e hfa) g s2.bb)⟩
theorem cl_add (k : Ok (Fm.box p) B1 H1) (c : CL K p B1 H1 Bq v ds H') (hσ : σ[6]? = some (some v)) (h : ∀ B', Ex Bq B' → ED (Fm.box p) K tb σ B' (.list es)) (hl : ds.length + es.length ≤ 1000) (q : ∀ v' H'', CL K p B1 H1 Bq v' (ds ++ es) H'' → D.nx (σ.set 6 (some v')) H'') : tAsg (tOp (rAddA K) (tVar 6) tb) (gName 6) D σ H' := by
  obtain ⟨fa, B', acc, rfl, hfa, s', k', hb, hd, ha, e⟩ := c
  refine ⟨.ref fa, hσ, ?_⟩
  refine h B' e B' (Ex.refl B') H' k' _ fun w B5 H5 s5 k5 g => ?_
  obtain ⟨b, xs, rfl, h1, l1, g1⟩ := dd_lst g
  have hd5 := s5.keep fa _ (cl_nfp k hfa) hd
  refine .inr (.inr (.inl ⟨fa, b, acc, xs, rfl, rfl, hd5, k5.e _ _ h1, by rw [ha.len, g1.len, sizeLine_eq]; omega, fun p2 hp2 => ?_⟩))
  exact q (.ref p2) _ (cl_of (dead (s'.trans s5) hp2) k (s'.trans s5) k5 (fresh_back k5.e hp2) ((ha.up s5.bb).app g1) (e.trans s5.bb))
theorem cl_app {Cs : PyData → Prop} (k : Ok (Fm.box p) B1 H1) (c : CL K p B1 H1 Bq v ds H') (hσ : σ[6]? = some (some v)) (h : ∀ B', Ex Bq B' → EV (Fm.box p) te σ B' (fun v B => ∃ d, Dd K B v d ∧ Cs d)) (hl : ds.length < 1000) (q : ∀ d H'', Cs d → CL K p B1 H1 Bq v (ds ++ [d]) H'' → D.nx σ H'') : tDrop (tBM K "list" rAppend (tVar 6) (tCons te tNil)) D σ H' := by
  obtain ⟨fa, B', acc, rfl, hfa, s', k', hb, hd, ha, e⟩ := c
  refine ⟨.ref fa, hσ, .inl ⟨rfl, _, sq_of hd⟩, ?_⟩
  refine h B' e B' (Ex.refl B') H' k' _ fun w B5 H5 s5 k5 ⟨d, hd', hc⟩ => ?_
  have hd5 := s5.keep fa _ (cl_nfp k hfa) hd
  refine ⟨fa, acc, w, rfl, rfl, hd5, by rw [ha.len, sizeLine_eq]; omega, ?_⟩
  exact q d _ hc (cl_of hfa k (s'.trans s5) k5 (s5.sep fa hb (by rw [hd]; exact fun z => nomatch z)) ((ha.up s5.bb).snoc hd') (e.trans s5.bb))
theorem cl_for {ws : List PyData} (k : Ok (Fm.box p) B1 H1) (c : CL K p B1 H1 Bq v ds H') (h : ∀ B', Ex Bq B' → ED (Fm.box p) K tl σ B' (.list ws)) (I : Nat → L2.St → V → List PyData → Prop) (h0 : I 0 σ v ds)
    (hs : ∀ i w d σ' v' ds' Bq' H'', ws[i]? = some d → Ex Bq Bq' → Dd K Bq' w d → I i σ' v' ds' → CL K p B1 H1 Bq' v' ds' H'' → tbd { D with nx := fun σ2 H2 => ∃ v2 ds2, I (i + 1) σ2 v2 ds2 ∧ CL K p B1 H1 Bq' v2 ds2 H2, ct := fun σ2 H2 => ∃ v2 ds2, I (i + 1) σ2 v2 ds2 ∧ CL K p B1 H1 Bq' v2 ds2 H2, bk := D.nx } (σ'.set j (some w)) H'')
    (hd : ∀ σ' v' ds' H'', I ws.length σ' v' ds' → CL K p B1 H1 Bq v' ds' H'' → D.nx σ' H'') : tFor (iSeq K tl) (gName j) tbd D σ H' := by
  obtain ⟨fa, B', acc, rfl, hfa, s', k', hb, hd', ha, e⟩ := c
  refine h B' e B' (Ex.refl B') H' k' _ fun w B5 H5 s5 k5 g => ?_
  obtain ⟨b, xs, rfl, h1, l1, g1⟩ := dd_lst g
  have c5 : CL K p B1 H1 B5 (.ref fa) ds H5 := ⟨fa, B5, acc, rfl, hfa, s'.trans s5, k5, s5.sep fa hb (by rw [hd']; exact fun z => nomatch z), s5.keep fa _ (cl_nfp k hfa) hd', ha.up s5.bb, Ex.refl B5⟩
  refine ⟨b, rfl, .inl ⟨⟨xs, sq_of (k5.e _ _ h1)⟩, for_list (K := K) (xs := xs) (fun i σ' H' => ∃ v2 ds2, I i σ' v2 ds2 ∧ CL K p B1 H1 B5 v2 ds2 H') ⟨_, _, h0, c5⟩ (fun i σ' H' _ ⟨v2, ds2, _, fa2, B2, acc2, _, _, _, k2, _, _, _, e2⟩ => sq_of (k2.e _ _ (e2 _ _ h1))) (fun i x σ' H' hx ⟨v2, ds2, hi, c2⟩ => ?_) (fun σ' H' ⟨v2, ds2, hi, c2⟩ => ?_)⟩⟩
  · obtain ⟨d, hd1, hd2⟩ := g1.getv hx
    exact hs i x d σ' v2 ds2 B5 H' hd1 (e.trans s5.bb) hd2 hi c2
  · obtain ⟨fa2, B2, acc2, q1, q2, q3, q4, q5, q6, q7, q8⟩ := c2
    refine hd σ' v2 ds2 H' (by rw [← g1.len]; exact hi) ⟨fa2, B2, acc2, q1, q2, q3, q4, q5, q6, q7, (e.trans s5.bb).trans q8⟩
theorem cl_done (k : Ok (Fm.box p) B1 H1) (c : CL K p B1 H1 Bq v ds H') (hl : ds.length ≤ 1000) : ∃ B2, Step (fun a => a = p) B1 H1 B2 H' ∧ Ok (Fm.box p) B2 H' ∧ Dd K B2 v (.list ds) := by
  obtain ⟨fa, B', acc, rfl, hfa, s', k', hb, hd, ha, e⟩ := c
  exact cq_done k hfa (by omega) ⟨B', acc, s', k', hb, hd, ha⟩
end


/-! ### parts that are known up to a choice -/
theorem rep_len {α : Type} (x : α) : ∀ m : Nat, (List.replicate m [x]).flatten.length = m
  | 0 => rfl
  | m + 1 => by rw [List.replicate_succ, List.flatten_cons, List.length_append, rep_len x m]; show 1 + m = m + 1; omega
def SWs (n : Nat) (ds : List PyData) : Prop := ∀ d ∈ ds, SW n d
theorem sws_nil {n : Nat} : SWs n [] := fun d hd => nomatch hd
theorem sws_cons {n : Nat} {d : PyData} {ds : List PyData} (h : SW n d) (t : SWs n ds) : SWs n (d :: ds) := fun x hx => by
  rcases List.mem_cons.mp hx with rfl | hx
  · exact h
  · exact t x hx
theorem sw_t {n : Nat} {ds : List PyData} (h : SWs n ds) (hl : ds.length ≤ 1000 := by exact Nat.le_of_ble_eq_true rfl) : SW (n + 1) (.tuple ds) := sw_tup hl h
theorem sw_l {n : Nat} {ds : List PyData} (h : SWs n ds) (hl : ds.length ≤ 1000 := by exact Nat.le_of_ble_eq_true rfl) : SW (n + 1) (.list ds) := sw_lst hl h
def SmV (K : PySem.W.Frag) (n : Nat) : PV := fun v B => ∃ d, Dd K B v d ∧ SW n d
def SmVs (K : PySem.W.Frag) (n m : Nat) : List V → Hp → Prop := fun vs B => ∃ ds, DdAll K B vs ds ∧ ds.length = m ∧ ∀ x ∈ ds, SW n x
def Case (d : PyData) : Prop := ∃ k r, d = .tuple [k, r] ∧ Sm 2 k ∧ SW 16 r
theorem case_mk {k r : PyData} (h1 : Sm 2 k) (h2 : SW 16 r) : Case (.tuple [k, r]) := ⟨k, r, rfl, h1, h2⟩
def Cas (ds : List PyData) : Prop := ∀ d ∈ ds, Case d
theorem cas_nil : Cas [] := fun d hd => nomatch hd
theorem cas_cons {d : PyData} {ds : List PyData} (h : Case d) (t : Cas ds) : Cas (d :: ds) := fun x hx => by
  rcases List.mem_cons.mp hx with rfl | hx
  · exact h
  · exact t x hx
theorem cas_app {a b : List PyData} (h : Cas a) (t : Cas b) : Cas (a ++ b) := fun x hx => by
  rcases List.mem_append.mp hx with hx | hx
  · exact h x hx
  · exact t x hx
section
variable {F : Fm} {B : Hp} {σ : L2.St} {te ta tb : TE} {tas : TA} {n m : Nat} {d : PyData} {xs : List PyData}
theorem sv_of (h : ED F K te σ B d) (hs : SW n d) : EV F te σ B (SmV K n) := h.imp fun v B1 _ hv => ⟨d, hv, hs⟩
theorem svs_nil : EVs F tNil σ B (SmVs K n 0) := fun B1 e0 H j Q q => q [] B1 H (Step.refl j.e) j ⟨[], .nil, rfl, fun x hx => nomatch hx⟩
theorem svs_cons (h : EV F te σ B (SmV K n)) (hs : EVs F tas σ B (SmVs K n m)) : EVs F (tCons te tas) σ B (SmVs K n (m + 1)) := fun B1 e0 H j Q q =>
  h B1 e0 H j _ fun v B2 H2 s2 j2 ⟨d, hd, hn⟩ => hs B2 (e0.trans s2.bb) H2 j2 _ fun us B3 H3 s3 j3 ⟨ds, hds, hm, hall⟩ => q (v :: us) B3 H3 (s2.trans s3) j3 ⟨d :: ds, .cons (hd.up s3.bb) hds, by rw [List.length_cons, hm], fun x hx => by
    rcases List.mem_cons.mp hx with rfl | hx
    · exact hn
    · exact hall x hx⟩
theorem sv_tup (h : EVs F tas σ B (SmVs K n m)) (hm : m ≤ 1000 := by decide) : EV F (tTup tas) σ B (SmV K (n + 1)) := h.newT (fun vs B1 _ ⟨ds, hds, hl, _⟩ => by rw [hds.len, hl, sizeLine_eq]; omega) fun vs p B1 _ ⟨ds, hds, hl, hall⟩ hp => ⟨_, .tup (st_of upd_same) (by rw [hds.len, hl, sizeLine_eq]; omega) (hds.up (Ex.new hp)), sw_tup (by omega) hall⟩
theorem sv_case {k : PyData} (h1 : ED F K ta σ B k) (hk : Sm 2 k) (h2 : EV F tb σ B (SmV K n)) (hn : n ≤ 16) : EV F (tTup (tCons ta (tCons tb tNil))) σ B (fun v B => ∃ d, Dd K B v d ∧ Case d) := fun B1 e0 H j Q q =>
  h1 B1 e0 H j _ fun va B2 H2 s2 j2 ha => h2 B2 (e0.trans s2.bb) H2 j2 _ fun vb B3 H3 s3 j3 ⟨r, hb, hr⟩ =>
    ⟨by show 2 ≤ sizeLine; decide, fun p hp => q (.ref p) _ _ ((s2.trans s3).trans (Step.alloc j3.e hp)) (j3.alloc hp) ⟨_, .tup (st_of upd_same) (by show 2 ≤ sizeLine; decide) (.cons ((Dd.up ha s3.bb).up (Ex.new (fresh_back j3.e hp))) (.cons (hb.up (Ex.new (fresh_back j3.e hp))) .nil)), case_mk hk (hr.le hn)⟩⟩
end
theorem due_sm {k r : PyData} (hk : Sm 2 k) (hr : Sm 16 r) : Sm 19 (dueT k r) ∧ (dueT k r = .tuple [.str "kept", k, r] ∨ ∃ tag d, dueT k r = .tuple [.str tag, d] ∧ strOk tag = true ∧ (tag == ("kept" : Str)) = false) := by
  have two : ∀ (tag : Str) (d : PyData), strOk tag = true → Sm 16 d → Sm 19 (.tuple [.str tag, d]) := fun tag d h1 h2 => (sm_tup (n := 16) fun x hx => by
    simp only [List.mem_cons, List.mem_nil_iff, or_false] at hx
    rcases hx with rfl | rfl
    · exact sm_str h1
    · exact h2).le (by decide)
  cases hi : inB k 1 8 with
  | false =>
    rw [due_num' hi]
    exact ⟨two _ _ (by decide +kernel) (hk.le (by decide)), .inr ⟨_, _, rfl, by decide +kernel, by decide +kernel⟩⟩
  | true =>
    obtain ⟨n, rfl, n1, n2⟩ := inB_is hi
    cases hrd : treesD r n with
    | false =>
      rw [dueT_trees ⟨n1, n2⟩ hrd]
      exact ⟨two _ _ (by decide +kernel) hr, .inr ⟨_, _, rfl, by decide +kernel, by decide +kernel⟩⟩
    | true =>
      obtain ⟨rs, rfl⟩ := treesD_is hrd
      have h := dueT_back ⟨n1, n2⟩ hrd
      cases hb : backK (edgesT rs) n.toNat with
      | none =>
        rw [hb] at h
        rw [h]
        refine ⟨(sm_tup (n := 16) fun x hx => ?_).le (by decide), .inl rfl⟩
        simp only [List.mem_cons, List.mem_nil_iff, or_false] at hx
        rcases hx with rfl | rfl | rfl
        · exact sm_str (by decide +kernel)
        · exact sm_int
        · exact hr
      | some b =>
        rw [hb] at h
        rw [h]
        exact ⟨two _ _ (by decide +kernel) sm_int, .inr ⟨_, _, rfl, by decide +kernel, by decide +kernel⟩⟩
theorem eqv_pair (a b c d : PyData) : PyData.eqv (.tuple [a, b]) (.tuple [c, d]) = (PyData.eqv a c && PyData.eqv b d) := by
  simp [PyData.eqv, PyData.eqvAll]
theorem gr_kept {n : Nat} {rs : List PyData} (h1 : 1 ≤ n) (h8 : n ≤ 8) (hne : rs ≠ []) (G : GR n rs) : dueT (.int (n : Nat)) (.tuple rs) = .tuple [.str "kept", .int (n : Nat), .tuple rs] := by
  have hr : treesD (.tuple rs) n = true := by
    have l9 := G.len
    have l1 : 1 ≤ rs.length := List.length_pos_iff.mpr hne
    rw [treesD_tup, decide_eq_true (show (1 : Int) ≤ (rs.length : Nat) by omega), decide_eq_true (show ((rs.length : Nat) : Int) ≤ 9 by omega), List.all_eq_true.mpr fun r hr => (G.ok r hr).1]
    rfl
  rw [dueT_back (n := (n : Nat)) ⟨by omega, by omega⟩ hr]
  have hb : backK (edgesT rs) ((n : Int)).toNat = none := G.bk
  rw [hb]
def spLaw (K : PySem.W.Frag) : Sp := fun vs H Q _ => ∃ (a : Addr) (ns : List Int), vs = [.ref a] ∧ SqL K H a (ns.map V.int) ∧ ns.length ≤ 63 ∧ ∀ H', Q (.bl true) H'
variable {fI fE : Addr} {fdI fdE : FuncData}

abbrev s_law : Stmt := topS 51
abbrev N_law : List Str := ["script", "kinds", "trees", "box", "made", "plain", "cases", "knot", "many", "k", "a", "b", "one", "due", "odd"]
theorem sc_law : FnScope N_law ["script"] (defScope s_law) := ⟨rfl, rfl, rfl, by decide +kernel, rfl, by decide +kernel, by decide +kernel⟩
set_option maxHeartbeats 16000000 in
theorem ok_law (F : Fun K "law" "law" s_law f fd) (T : TP P w K mg base c0 c1 c2 CP) (C_law_forest : Callee P w K mg base "_law_forest" 22 ["script", "most"] (spGram K)) (C_law_box : Callee P w K mg base "_law_box" 1 ["script", "k"] (spBoxN K)) (C_law_take : Callee P w K mg base "_law_take" 1 ["box", "many"] (spTake K))
    (C_law_wood : Callee P w K mg base "_law_wood" 24 ["forest"] (spMade K CP)) (C_law_spoilt : Callee P w K mg base "_law_spoilt" 9 ["box", "value", "deep"] (spSpoilU K 12)) (C_law_due : Callee P w K mg base "_law_due" 23 ["kinds", "trees"] (spF K preDue fDueT)) (C_law_told : Callee P w K mg base "_law_told" 24 ["kinds", "trees"] (spF K preDue fDueT)) (C_law_is_due : Callee P w K mg base "_law_is_due" 1 ["told", "due"] (spF K (fun ds => ∃ a b, ds = [.bool a, .bool b]) fIs))
    (M_Pairs : Mk K CP fI) (G_Pairs : FnOk P w K mg base (L2.CX P w) 22 fI fdI ["self", "kinds", "trees"] (spPairs K CP c0 c1 c2)) (B_Pairs : L2.Binds K fdI ["self", "kinds", "trees"] [])
    (G_eq : FnOk P w K mg base CX0 1 fE fdE ["self", "other"] (spEq K CP)) (B_eq : L2.Binds K fdE ["self", "other"] []) (hsE : PySem.W.findIn K (.ref CP) "__eq__" = some (some (.ref fE))) (hfE : PySem.W.isFn K (.ref fE) = true) (nfE : PySem.W.notFirst K CP (.type "tuple") = true) : FnOk P w K mg base CX0 25 f fd ["script"] (spLaw K) := by
  refine F.ok sc_law (fun vs H Q E h => ?_) (fun cdv A outer s H vs Q E hr h => ?_)
  · obtain ⟨a, ns, rfl, _⟩ := h
    rfl
  · obtain ⟨a, ns, rfl, hS, hl, q⟩ := h
    have hu64 : (A.deeper (envOfC "law" (defScope s_law) s.heap.objs.size f cdv)).units + 64 < cLine := hr.units
    refine ⟨_, (pss_cons (ps_asg (pe_callC C_law_forest (hr.mono (by decide)) rfl pass0 (pa_cons (pv 0) (pa_cons pe_int pa_nil))) (pg_tup (by rfl) (pgs_cons (pg_name (i := 1) sc_law.nd rfl (Or.inl rfl)) (pgs_cons (pg_name (i := 2) sc_law.nd rfl (Or.inr rfl)) pgs_nil))))
      (pss_cons (ps_set (i := 3) sc_law.nd rfl (Or.inl rfl) (pe_callC C_law_box (hr.mono (by decide)) rfl pass0 (pa_cons (pv 0) (pa_cons pe_int pa_nil))))
      (pss_cons (ps_set (i := 4) sc_law.nd rfl (Or.inl rfl) (pe_callC C_law_wood (hr.mono (by decide)) rfl pass0 (pa_cons (pe_tup (pa_cons (pv 1) (pa_cons (pv 2) pa_nil))) pa_nil)))
      (pss_cons (ps_if (PW.pt (pw_or (pt_not (pt_cmpR (op_ownEq G_eq (hr.mono (by decide)) hsE hfE B_eq nfE pass0) (pv 4) (pe_makeS M_Pairs G_Pairs (hr.mono (by decide)) rfl T.g_Trees B_Pairs (fun σ => passAt takes0 σ) (pa_cons (pv 1) (pa_cons (pv 2) pa_nil))) (nomark _))) (pw_or1 (pt_cmpR (op_ownEq G_eq (hr.mono (by decide)) hsE hfE B_eq nfE pass0) (pv 4) (pe_tup (pa_cons (pv 1) (pa_cons (pv 2) pa_nil))) (nomark _))))) (pss_one (ps_ret pe_bl)) pss_nil)
      (pss_cons (ps_set (i := 5) sc_law.nd rfl (Or.inl rfl) (pe_tup (pa_cons pe_int (pa_cons (pe_tup (pa_cons pe_str (pa_cons (pe_tup (pa_cons (pe_tup (pa_cons pe_str (pa_cons pe_str pa_nil))) (pa_cons (pe_tup (pa_cons pe_str pa_nil)) pa_nil))) pa_nil))) pa_nil))))
      (pss_cons (ps_set (i := 6) sc_law.nd rfl (Or.inl rfl) (pe_lst (pa_cons (pe_tup (pa_cons (pv 1) (pa_cons (pv 2) pa_nil))) (pa_cons (pe_tup (pa_cons (pv 1) (pa_cons (pe_callTy (call_list_ofK K) (by rfl) T.m_list bt_list (pa_cons (pv 2) pa_nil)) pa_nil))) (pa_cons (pe_tup (pa_cons (pv 1) (pa_cons (pe_tup pa_nil) pa_nil))) (pa_cons (pe_tup (pa_cons (pv 1) (pa_cons (pe_slice (sl_anyK K) (pv 2) (po_some pe_int) po_none) pa_nil))) (pa_cons (pe_tup (pa_cons (pv 1) (pa_cons pe_non pa_nil))) (pa_cons (pe_tup (pa_cons (pv 1) (pa_cons (pe_revTK K (pv 2)) pa_nil))) (pa_cons (pe_tup (pa_cons pe_int (pa_cons (pv 2) pa_nil))) (pa_cons (pe_tup (pa_cons (pv 1) (pa_cons (pe_op op_repT (pe_tup (pa_cons (pv 5) pa_nil)) pe_int) pa_nil))) (pa_cons (pe_tup (pa_cons (pv 1) (pa_cons (pe_op op_repT (pe_tup (pa_cons (pv 5) pa_nil)) pe_int) pa_nil))) pa_nil)))))))))))
      (pss_cons (ps_set (i := 6) sc_law.nd rfl (Or.inl rfl) (pe_op (op_addK K) (pv 6) (pe_lc (own := [("odd", 14)]) rfl sc_law.nd (pi_seqK K (pe_lst (pa_cons pe_int (pa_cons pe_int (pa_cons (pe_un un_neg pe_int) (pa_cons pe_non (pa_cons pe_bl (pa_cons pe_str (pa_cons (pe_op (op_addK K) (pv 1) pe_int) (pa_cons (pe_op op_sub (pv 1) pe_int) pa_nil)))))))))) (blkOk_by (own := [("odd", 14)]) (N := N_law) (sc := defScope s_law) (by decide +kernel)) (fun _ _ _ _ _ => pg_name (i := 14) sc_law.nd rfl (Or.inl rfl)) (fun _ _ _ _ _ => pts_nil) (fun _ _ _ _ _ => (pe_tup (pa_cons (pv 14) (pa_cons (pv 2) pa_nil)))))))
      (pss_cons (ps_for PassesOwn.never rfl (pi_seqK K (pe_lst (pa_cons (pe_tup (pa_cons pe_str pa_nil)) (pa_cons (pe_tup (pa_cons pe_str (pa_cons (pe_tup pa_nil) pa_nil))) (pa_cons (pe_tup (pa_cons pe_str (pa_cons (pe_tup (pa_cons (pe_tup (pa_cons pe_str pa_nil)) (pa_cons (pe_tup (pa_cons pe_str pa_nil)) (pa_cons (pe_tup (pa_cons pe_str (pa_cons pe_str pa_nil))) pa_nil)))) pa_nil))) (pa_cons (pe_tup (pa_cons pe_str (pa_cons (pe_tup (pa_cons (pe_tup (pa_cons pe_str (pa_cons pe_str pa_nil))) pa_nil)) pa_nil))) (pa_cons (pe_tup (pa_cons pe_str (pa_cons (pe_tup (pa_cons (pe_tup (pa_cons pe_str pa_nil)) (pa_cons (pe_tup (pa_cons pe_str (pa_cons pe_str pa_nil))) pa_nil))) pa_nil))) pa_nil))))))) (pg_name (i := 7) sc_law.nd rfl (Or.inl rfl)) (pss_one (ps_expr (pe_bm PySem.F.plainAttrs_list PySem.F.slot_list_append PySem.F.type_list_append mt_append (pv 6) (pa_cons (pe_tup (pa_cons (pv 1) (pa_cons (pe_tup (pa_cons (pe_tup (pa_cons pe_int (pa_cons (pv 7) pa_nil))) pa_nil)) pa_nil))) pa_nil)))))
      (pss_cons (ps_for PassesOwn.never rfl (pi_seqK K (pe_lst (pa_cons pe_int (pa_cons pe_int pa_nil)))) (pg_name (i := 8) sc_law.nd rfl (Or.inl rfl)) (pss_one (ps_expr (pe_bm PySem.F.plainAttrs_list PySem.F.slot_list_append PySem.F.type_list_append mt_append (pv 6) (pa_cons (pe_tup (pa_cons (pv 1) (pa_cons (pe_tup (pa_cons (pe_tup (pa_cons pe_int (pa_cons (pe_tup (pa_cons pe_str (pa_cons (pe_op (op_addK K) (pe_op op_repT (pe_tup (pa_cons (pe_tup (pa_cons pe_str (pa_cons pe_str pa_nil))) pa_nil)) (pv 8)) (pe_tup (pa_cons (pe_tup (pa_cons pe_str pa_nil)) pa_nil))) pa_nil))) pa_nil))) pa_nil)) pa_nil))) pa_nil)))))
      (pss_cons (ps_for PassesOwn.never rfl (pi_seqK K (pe_lst (pa_cons (pe_tup (pa_cons pe_str (pa_cons (pv 1) (pa_cons (pe_tup (pa_cons (pe_tup (pa_cons pe_str pa_nil)) pa_nil)) pa_nil)))) (pa_cons (pe_tup (pa_cons pe_str (pa_cons pe_int (pa_cons (pe_lst (pa_cons (pe_tup (pa_cons pe_str pa_nil)) pa_nil)) pa_nil)))) (pa_cons (pe_tup (pa_cons pe_str (pa_cons pe_int pa_nil))) (pa_cons (pe_tup (pa_cons pe_str (pa_cons (pe_tup (pa_cons pe_str pa_nil)) pa_nil))) (pa_cons (pe_tup (pa_cons pe_str (pa_cons pe_str pa_nil))) (pa_cons (pe_tup (pa_cons pe_str (pa_cons pe_int pa_nil))) (pa_cons (pe_lst (pa_cons pe_str pa_nil)) (pa_cons (pe_tup (pa_cons pe_str (pa_cons (pe_tup (pa_cons (pe_tup (pa_cons pe_str pa_nil)) (pa_cons (pe_tup (pa_cons pe_str (pa_cons pe_int pa_nil))) pa_nil))) pa_nil))) pa_nil)))))))))) (pg_name (i := 7) sc_law.nd rfl (Or.inl rfl)) (pss_one (ps_expr (pe_bm PySem.F.plainAttrs_list PySem.F.slot_list_append PySem.F.type_list_append mt_append (pv 6) (pa_cons (pe_tup (pa_cons (pv 1) (pa_cons (pe_tup (pa_cons (pe_tup (pa_cons pe_int (pa_cons (pv 7) pa_nil))) pa_nil)) pa_nil))) pa_nil)))))
      (pss_cons (ps_set (i := 6) sc_law.nd rfl (Or.inl rfl) (pe_op (op_addK K) (pv 6) (pe_lst (pa_cons (pe_tup (pa_cons (pv 1) (pa_cons (pe_tup (pa_cons (pe_tup (pa_cons (pv 1) (pa_cons (pe_tup (pa_cons pe_str (pa_cons (pe_tup (pa_cons (pe_tup (pa_cons pe_str (pa_cons pe_str pa_nil))) (pa_cons (pe_tup (pa_cons pe_str pa_nil)) pa_nil))) pa_nil))) pa_nil))) pa_nil)) pa_nil))) (pa_cons (pe_tup (pa_cons (pv 1) (pa_cons (pe_tup (pa_cons (pe_tup (pa_cons pe_bl (pa_cons (pe_tup (pa_cons pe_str (pa_cons (pe_tup (pa_cons (pe_tup (pa_cons pe_str (pa_cons pe_str pa_nil))) (pa_cons (pe_tup (pa_cons pe_str pa_nil)) pa_nil))) pa_nil))) pa_nil))) pa_nil)) pa_nil))) (pa_cons (pe_tup (pa_cons (pv 1) (pa_cons (pe_tup (pa_cons (pe_ix (ix_seqK K) (pv 5) pe_int (fun _ _ => rfl)) pa_nil)) pa_nil))) pa_nil))))))
      (pss_cons (ps_for PassesOwn.never rfl (pi_range1 rfl T.m_range (pa_cons pe_int pa_nil)) (pg_name (i := 9) sc_law.nd rfl (Or.inl rfl)) (pss_cons (ps_par (i := 10) (j := 11) (by rfl) sc_law.nd rfl rfl (by decide) rfl rfl (pa_cons (pe_callC C_law_take (hr.mono (by decide)) rfl pass0 (pa_cons (pv 3) (pa_cons (pv 1) pa_nil))) (pa_cons (pe_callC C_law_take (hr.mono (by decide)) rfl pass0 (pa_cons (pv 3) (pa_cons (pv 1) pa_nil))) pa_nil)) (by rfl))
      (pss_cons (ps_expr (pe_bm PySem.F.plainAttrs_list PySem.F.slot_list_append PySem.F.type_list_append mt_append (pv 6) (pa_cons (pe_tup (pa_cons (pv 1) (pa_cons (pe_tup (pa_cons (pe_tup (pa_cons (pv 10) (pa_cons (pe_tup (pa_cons pe_str (pa_cons (pv 11) (pa_cons (pe_tup (pa_cons (pe_tup (pa_cons pe_str pa_nil)) pa_nil)) pa_nil)))) pa_nil))) (pa_cons (pe_tup (pa_cons (pv 11) (pa_cons (pe_tup (pa_cons pe_str (pa_cons (pe_tup (pa_cons (pe_tup (pa_cons pe_str pa_nil)) (pa_cons (pe_tup (pa_cons pe_str (pa_cons (pe_callC C_law_take (hr.mono (by decide)) rfl pass0 (pa_cons (pv 3) (pa_cons (pv 1) pa_nil))) (pa_cons (pe_tup pa_nil) pa_nil)))) pa_nil))) pa_nil))) pa_nil))) pa_nil))) pa_nil))) pa_nil)))
      (pss_one (ps_expr (pe_bm PySem.F.plainAttrs_list PySem.F.slot_list_append PySem.F.type_list_append mt_append (pv 6) (pa_cons (pe_tup (pa_cons (pv 1) (pa_cons (pe_callC C_law_spoilt (hr.mono (by decide)) rfl pass0 (pa_cons (pv 3) (pa_cons (pv 2) (pa_cons (pe_op (op_addK K) pe_int (pe_callC C_law_take (hr.mono (by decide)) rfl pass0 (pa_cons (pv 3) (pa_cons pe_int pa_nil)))) pa_nil)))) pa_nil))) pa_nil)))))))
      (pss_cons (ps_for PassesOwn.never rfl (pi_seqK K (pv 6)) (pg_name (i := 12) sc_law.nd rfl (Or.inl rfl)) (pss_cons (ps_set (i := 13) sc_law.nd rfl (Or.inl rfl) (pe_callC C_law_due (hr.mono (by decide)) rfl pass0 (pa_cons (pe_ix (ix_seqK K) (pv 12) pe_int (fun _ _ => rfl)) (pa_cons (pe_ix (ix_seqK K) (pv 12) pe_int (fun _ _ => rfl)) pa_nil))))
      (pss_cons (ps_if (pt_cmpR (op_neDK K hu64) (pe_callC C_law_told (hr.mono (by decide)) rfl pass0 (pa_cons (pe_ix (ix_seqK K) (pv 12) pe_int (fun _ _ => rfl)) (pa_cons (pe_ix (ix_seqK K) (pv 12) pe_int (fun _ _ => rfl)) pa_nil))) (pv 13) (nomark _)) (pss_one (ps_ret pe_bl)) pss_nil)
      (pss_one (ps_if (PW.pt (pw_and (pt_cmpR (op_eqDK K hu64) (pe_ix (ix_seqK K) (pv 13) pe_int (fun _ _ => rfl)) pe_str (nomark _)) (pw_and1 (pt_not (pt_val (pe_callC C_law_is_due (hr.mono (by decide)) rfl pass0 (pa_cons (pe_cmpR (op_ownEq G_eq (hr.mono (by decide)) hsE hfE B_eq nfE pass0) (pv 4) (pe_makeS M_Pairs G_Pairs (hr.mono (by decide)) rfl T.g_Trees B_Pairs (fun σ => passAt takes0 σ) (pa_cons (pe_ix (ix_seqK K) (pv 12) pe_int (fun _ _ => rfl)) (pa_cons (pe_ix (ix_seqK K) (pv 12) pe_int (fun _ _ => rfl)) pa_nil))) (nomark _)) (pa_cons (pe_cmpR (op_eqDK K hu64) (pv 12) (pe_tup (pa_cons (pv 1) (pa_cons (pv 2) pa_nil))) (nomark _)) pa_nil)))))))) (pss_one (ps_ret pe_bl)) pss_nil)))))
      (pss_one (ps_ret pe_bl))))))))))))))), ?_⟩
    refine ⟨.ref a, rfl, a, ns, H, rfl, Ex.refl H, hS, hl, fun vg Bg Hg n rs sg hg n1 n8 hne G => ?_⟩
    obtain ⟨t, xs, rfl, ht, _, hxs⟩ := dd_tup hg
    obtain ⟨vn, vr, rfl, hvn, hR⟩ := arg2 hxs
    obtain rfl := dd_int hvn
    refine ⟨t, _, rfl, ex_t sg.bh ht, rfl, _, _, rfl, _, _, rfl, rfl, ?_⟩
    have eHg : Ex H Hg := sg.ex
    refine ⟨.ref a, rfl, a, 4, ns, Bg, rfl, sg.bh, ex_l sg.bb hS, hl, by decide, by decide, fun p B1 H1 hp s1 k1 => ?_⟩
    have a1 : At (Fm.box p) B1 H1 B1 H1 := At.start k1
    have hR1 : Dd K B1 vr (.tuple rs) := hR.up s1.bb
    have hkept := gr_kept n1 n8 hne G
    have l9 := G.len
    have smr : ∀ x ∈ rs, SW 12 x := fun x hx => smD_sw 11 x (G.ok x hx).2
    have smR : SW 13 (.tuple rs) := sw_tup (by omega) smr
    have shR : SeqAt.shaped (.tuple rs) = true := smR.1.sh
    have smD2 : smD 12 (.tuple rs) = true := smD_tup (by omega) fun x hx => (G.ok x hx).2
    dsimp only [gName]
    refine qv_asg (P := InsP K CP (.int (n : Nat)) (.tuple rs)) a1 ?_ fun vm B2 H2 e2 a2 hm => ?_
    · intro B2 e2 H2 j2 Q2 q2
      refine ⟨_, rfl, _, rfl, by show 2 ≤ sizeLine; decide, fun p2 hp2 => ⟨upd B2 p2 (.tup [.int (n : Nat), vr]), .ref p2, .int (n : Nat), .tuple rs, rfl, (Step.alloc (M := fun _ => False) j2.e hp2).bh, .tup (st_of upd_same) (by show 2 ≤ sizeLine; decide) (.cons (.int _) (.cons ((hR1.up e2).up (Ex.new (fresh_back j2.e hp2))) .nil)), hkept, (smR.le (by decide)).1, smR.2, fun v' B' H' s g => q2 v' B' H' ((Step.alloc j2.e hp2).trans s.pure) ((j2.alloc hp2).pure s) g⟩⟩
    have mk : ∀ (σ : L2.St) B3, σ[1]? = some (some (V.int (n : Nat))) → σ[2]? = some (some vr) → Ex B1 B3 → ED (Fm.box p) K (tTup (tCons (tVar 1) (tCons (tVar 2) tNil))) σ B3 (.tuple [.int (n : Nat), .tuple rs]) := fun σ B3 h1 h2 e3 => ed_tup (eds_cons (ed_var h1 (.int (n : Nat))) (eds_cons (ed_var h2 (hR1.up e3)) eds_nil))
    have er : (PyData.eqv (.int (n : Nat)) (.int (n : Nat)) && PyData.eqv (.tuple rs) (.tuple rs)) = true := by
      rw [eqv_refl _ smR.1.1, eqv_int]
      simp
    refine qv_when (b := !true || false) a2 (et_or (et_not (et_is (et_cmp (ev_op (ev_var rfl upc_ins hm) (ev_make (eds_cons (ed_var rfl (.int (n : Nat))) (eds_cons (ed_var rfl (hR1.up e2)) eds_nil)) hkept (smR.le (by decide)).1 smR.2) upc_ins (rv_ownEq rfl shR rfl shR))) er)) fun _ => et_cmp (ev_op (ev_var rfl upc_ins hm) (mk _ _ rfl rfl e2) upc_ins (rv_ownEqT rfl shR))) (fun h => nomatch h) (fun _ B3' H3' e3' a3' => ?_)
    refine qv_asg (P := DD K (.tuple [.int 0, .tuple [.str "plain", .tuple [.tuple [.str "word", .str "a"], .tuple [.str "foot"]]]])) a3' (ed_tup (eds_cons ed_int (eds_cons (ed_tup (eds_cons ed_str (eds_cons (ed_tup (eds_cons (ed_tup (eds_cons ed_str (eds_cons ed_str eds_nil))) (eds_cons (ed_tup (eds_cons ed_str eds_nil)) eds_nil))) eds_nil))) eds_nil))) fun vpl B3 H3 e3'' a3 hPl => ?_
    have e3 := e3'.trans e3''
    have k3 := a3.j
    have hR : Dd K B3 vr (.tuple rs) := hR1.up (e2.trans e3)
    have hM : InsP K CP (.int (n : Nat)) (.tuple rs) vm B3 := upc_ins _ _ _ e3 hm
    have swPl : ∀ {m : Nat}, SW (m + 6) (.tuple [.int 0, .tuple [.str "plain", .tuple [.tuple [.str "word", .str "a"], .tuple [.str "foot"]]]]) := fun {m} => (sw_t (sws_cons sw_int (sws_cons (sw_t (sws_cons (sw_str (by decide +kernel)) (sws_cons (sw_t (sws_cons (sw_t (sws_cons (sw_str (by decide +kernel)) (sws_cons (sw_str (by decide +kernel)) sws_nil))) (sws_cons (sw_t (sws_cons (sw_str (by decide +kernel)) sws_nil)) sws_nil))) sws_nil))) sws_nil)))
    have swPl1 : ∀ {m : Nat}, SW (m + 5) (.tuple [.str "plain", .tuple [.tuple [.str "word", .str "a"], .tuple [.str "foot"]]]) := fun {m} => (sw_t (sws_cons (sw_str (by decide +kernel)) (sws_cons (sw_t (sws_cons (sw_t (sws_cons (sw_str (by decide +kernel)) (sws_cons (sw_str (by decide +kernel)) sws_nil))) (sws_cons (sw_t (sws_cons (sw_str (by decide +kernel)) sws_nil)) sws_nil))) sws_nil)))
    have srep : ∀ m : Nat, m ≤ 100 → SW 16 (.tuple (List.replicate m [.tuple [.int 0, .tuple [.str "plain", .tuple [.tuple [.str "word", .str "a"], .tuple [.str "foot"]]]]]).flatten) := fun m hm => (sw_tup (n := 6) (by rw [rep_len]; omega) fun x hx => by
      obtain ⟨l, hl, hx⟩ := List.mem_flatten.mp hx
      rw [(List.mem_replicate.mp hl).2] at hx
      rw [List.mem_singleton.mp hx]
      exact swPl (m := 0)).le (by decide)
    refine cl_new (ds := [.tuple [.int (n : Nat), .tuple rs], .tuple [.int (n : Nat), .list rs], .tuple [.int (n : Nat), .tuple []], .tuple [.int (n : Nat), .tuple (cutL rs (some 1) none)], .tuple [.int (n : Nat), .none], .tuple [.int (n : Nat), .tuple rs.reverse], .tuple [.int 8, .tuple rs], .tuple [.int (n : Nat), .tuple (List.replicate ((9 : Int)).toNat [.tuple [.int 0, .tuple [.str "plain", .tuple [.tuple [.str "word", .str "a"], .tuple [.str "foot"]]]]]).flatten], .tuple [.int (n : Nat), .tuple (List.replicate ((10 : Int)).toNat [.tuple [.int 0, .tuple [.str "plain", .tuple [.tuple [.str "word", .str "a"], .tuple [.str "foot"]]]]]).flatten]]) k3 (eds_cons (ed_tup (eds_cons (ed_var rfl (.int (n : Nat))) (eds_cons (ed_var rfl (hR.up (Ex.refl B3))) eds_nil))) (eds_cons (ed_tup (eds_cons (ed_var rfl (.int (n : Nat))) (eds_cons (ev_cb (eds_cons (ed_var rfl (hR.up (Ex.refl B3))) eds_nil) rc_lstT) eds_nil))) (eds_cons (ed_tup (eds_cons (ed_var rfl (.int (n : Nat))) (eds_cons (ed_tup eds_nil) eds_nil))) (eds_cons (ed_tup (eds_cons (ed_var rfl (.int (n : Nat))) (eds_cons (ed_slT (ed_var rfl (hR.up (Ex.refl B3))) (eo_some (K := K) ed_int) eo_none) eds_nil))) (eds_cons (ed_tup (eds_cons (ed_var rfl (.int (n : Nat))) (eds_cons ed_non eds_nil))) (eds_cons (ed_tup (eds_cons (ed_var rfl (.int (n : Nat))) (eds_cons (ed_rev (ed_var rfl (hR.up (Ex.refl B3)))) eds_nil))) (eds_cons (ed_tup (eds_cons ed_int (eds_cons (ed_var rfl (hR.up (Ex.refl B3))) eds_nil))) (eds_cons (ed_tup (eds_cons (ed_var rfl (.int (n : Nat))) (eds_cons (ed_op (ed_tup (eds_cons (ed_var rfl (hPl.up (Ex.refl B3))) eds_nil)) ed_int (rd_rep (n := 9) (ds := [.tuple [.int 0, .tuple [.str "plain", .tuple [.tuple [.str "word", .str "a"], .tuple [.str "foot"]]]]]) (fun z => nomatch z) (by decide) (by decide) (by show 1 ≤ 1000; decide))) eds_nil))) (eds_cons (ed_tup (eds_cons (ed_var rfl (.int (n : Nat))) (eds_cons (ed_op (ed_tup (eds_cons (ed_var rfl (hPl.up (Ex.refl B3))) eds_nil)) ed_int (rd_rep (n := 10) (ds := [.tuple [.int 0, .tuple [.str "plain", .tuple [.tuple [.str "word", .str "a"], .tuple [.str "foot"]]]]]) (fun z => nomatch z) (by decide) (by decide) (by show 1 ≤ 1000; decide))) eds_nil))) eds_nil))))))))) (by show 9 ≤ 1000; decide) fun v H4 c4 => ?_
    have cs5 : Cas [.tuple [.int (n : Nat), .tuple rs], .tuple [.int (n : Nat), .list rs], .tuple [.int (n : Nat), .tuple []], .tuple [.int (n : Nat), .tuple (cutL rs (some 1) none)], .tuple [.int (n : Nat), .none], .tuple [.int (n : Nat), .tuple rs.reverse], .tuple [.int 8, .tuple rs], .tuple [.int (n : Nat), .tuple (List.replicate ((9 : Int)).toNat [.tuple [.int 0, .tuple [.str "plain", .tuple [.tuple [.str "word", .str "a"], .tuple [.str "foot"]]]]]).flatten], .tuple [.int (n : Nat), .tuple (List.replicate ((10 : Int)).toNat [.tuple [.int 0, .tuple [.str "plain", .tuple [.tuple [.str "word", .str "a"], .tuple [.str "foot"]]]]]).flatten]] := (cas_cons (case_mk sm_int (smR.le (by decide))) (cas_cons (case_mk sm_int ((sw_lst (by omega) smr).le (by decide))) (cas_cons (case_mk sm_int (sw_t sws_nil)) (cas_cons (case_mk sm_int ((sw_tup (by have := cutL_len rs (some 1) none; omega) fun x hx => smr x (mem_cutL hx)).le (by decide))) (cas_cons (case_mk sm_int sw_none) (cas_cons (case_mk sm_int ((sw_tup (by rw [List.length_reverse]; omega) fun x hx => smr x (List.mem_reverse.mp hx)).le (by decide))) (cas_cons (case_mk sm_int (smR.le (by decide))) (cas_cons (case_mk sm_int (srep _ (by decide))) (cas_cons (case_mk sm_int (srep _ (by decide))) cas_nil)))))))))
    refine cl_add (es := (([.int 0, .int 9, .int (-1), .none, .bool true, .str "2", .int ((n : Nat) + 1), .int ((n : Nat) - 1)] : List PyData).filter fun _ => true).map fun d => .tuple [d, .tuple rs]) k3 c4 rfl (fun B' e => ed_lcD (fun _ => true) (fun d => .tuple [d, .tuple rs]) (ev_seqL (ed_lst (eds_cons ed_int (eds_cons ed_int (eds_cons (ed_neg ed_int) (eds_cons ed_non (eds_cons ed_bl (eds_cons ed_str (eds_cons (ed_op (ed_var rfl (.int (n : Nat))) ed_int rd_add) (eds_cons (ed_op (ed_var rfl (.int (n : Nat))) ed_int rd_sub) eds_nil)))))))))) (by show 8 ≤ 16777216; decide) (fun _ => rfl) (fun d v B5 _ _ _ => et_yes) (fun d v B5 _ _ e5 hdv => ed_tup (eds_cons (ed_var rfl hdv) (eds_cons (ed_var rfl (hR.up (e.trans e5))) eds_nil)))) (by show 9 + 8 ≤ 1000; decide) fun v H5 c5 => ?_
    have cs6 : Cas ((([.int 0, .int 9, .int (-1), .none, .bool true, .str "2", .int ((n : Nat) + 1), .int ((n : Nat) - 1)] : List PyData).filter fun _ => true).map fun d => PyData.tuple [d, .tuple rs]) := fun d hd => by
      obtain ⟨x, hx, rfl⟩ := List.mem_map.mp hd
      exact case_mk ((show SWs 2 [.int 0, .int 9, .int (-1), .none, .bool true, .str "2", .int ((n : Nat) + 1), .int ((n : Nat) - 1)] from (sws_cons sw_int (sws_cons sw_int (sws_cons sw_int (sws_cons sw_none (sws_cons sw_bool (sws_cons (sw_str (by decide +kernel)) (sws_cons sw_int (sws_cons sw_int sws_nil))))))))) x (List.mem_filter.mp hx).1).1 (smR.le (by decide))
    refine cl_for (ws := [.tuple [.str "foot"], .tuple [.str "plain", .tuple []], .tuple [.str "plain", .tuple [.tuple [.str "foot"], .tuple [.str "foot"], .tuple [.str "word", .str "a"]]], .tuple [.str "plain", .tuple [.tuple [.str "word", .str "a"]]], .tuple [.str "plain", .tuple [.tuple [.str "foot"], .tuple [.str "word", .str "A"]]]]) k3 c5 (fun B' e => ed_lst (eds_cons (ed_tup (eds_cons ed_str eds_nil)) (eds_cons (ed_tup (eds_cons ed_str (eds_cons (ed_tup eds_nil) eds_nil))) (eds_cons (ed_tup (eds_cons ed_str (eds_cons (ed_tup (eds_cons (ed_tup (eds_cons ed_str eds_nil)) (eds_cons (ed_tup (eds_cons ed_str eds_nil)) (eds_cons (ed_tup (eds_cons ed_str (eds_cons ed_str eds_nil))) eds_nil)))) eds_nil))) (eds_cons (ed_tup (eds_cons ed_str (eds_cons (ed_tup (eds_cons (ed_tup (eds_cons ed_str (eds_cons ed_str eds_nil))) eds_nil)) eds_nil))) (eds_cons (ed_tup (eds_cons ed_str (eds_cons (ed_tup (eds_cons (ed_tup (eds_cons ed_str eds_nil)) (eds_cons (ed_tup (eds_cons ed_str (eds_cons ed_str eds_nil))) eds_nil))) eds_nil))) eds_nil)))))) (fun i σ' v ds => (∃ o7 o8 o9 o10 o11 o12 o13, σ' = [some (.ref a), some (.int (n : Nat)), some vr, some (.ref p), some vm, some vpl, some v, o7, o8, o9, o10, o11, o12, o13, none]) ∧ Cas ds ∧ ds.length ≤ 17 + i) ⟨⟨_, _, _, _, _, _, _, rfl⟩, cas_app cs5 cs6, Nat.le_of_ble_eq_true rfl⟩ ?_ ?_
    · rintro i w d σ' v ds Bq H'' hi eq hw ⟨⟨o7, o8, o9, o10, o11, o12, o13, rfl⟩, hall, hln⟩ c
      have hi' : i < 5 := (List.getElem?_eq_some_iff.mp hi).1
      have hsd : SW 10 d := (show SWs 10 [.tuple [.str "foot"], .tuple [.str "plain", .tuple []], .tuple [.str "plain", .tuple [.tuple [.str "foot"], .tuple [.str "foot"], .tuple [.str "word", .str "a"]]], .tuple [.str "plain", .tuple [.tuple [.str "word", .str "a"]]], .tuple [.str "plain", .tuple [.tuple [.str "foot"], .tuple [.str "word", .str "A"]]]] from (sws_cons (sw_t (sws_cons (sw_str (by decide +kernel)) sws_nil)) (sws_cons (sw_t (sws_cons (sw_str (by decide +kernel)) (sws_cons (sw_t sws_nil) sws_nil))) (sws_cons (sw_t (sws_cons (sw_str (by decide +kernel)) (sws_cons (sw_t (sws_cons (sw_t (sws_cons (sw_str (by decide +kernel)) sws_nil)) (sws_cons (sw_t (sws_cons (sw_str (by decide +kernel)) sws_nil)) (sws_cons (sw_t (sws_cons (sw_str (by decide +kernel)) (sws_cons (sw_str (by decide +kernel)) sws_nil))) sws_nil)))) sws_nil))) (sws_cons (sw_t (sws_cons (sw_str (by decide +kernel)) (sws_cons (sw_t (sws_cons (sw_t (sws_cons (sw_str (by decide +kernel)) (sws_cons (sw_str (by decide +kernel)) sws_nil))) sws_nil)) sws_nil))) (sws_cons (sw_t (sws_cons (sw_str (by decide +kernel)) (sws_cons (sw_t (sws_cons (sw_t (sws_cons (sw_str (by decide +kernel)) sws_nil)) (sws_cons (sw_t (sws_cons (sw_str (by decide +kernel)) (sws_cons (sw_str (by decide +kernel)) sws_nil))) sws_nil))) sws_nil))) sws_nil)))))) d (List.mem_of_getElem? hi)
      refine cl_app (Cs := Case) k3 c rfl (fun B' e => (ed_tup (eds_cons (ed_var rfl (.int (n : Nat))) (eds_cons (ed_tup (eds_cons (ed_tup (eds_cons ed_int (eds_cons (ed_var rfl (hw.up e)) eds_nil))) eds_nil)) eds_nil))).imp fun v B1 _ hv => ⟨_, hv, case_mk sm_int ((sw_t (sws_cons (sw_t (sws_cons sw_int (sws_cons hsd sws_nil))) sws_nil)).le (by decide))⟩) (by omega) fun d2 H7 hc c7 => ?_
      exact ⟨v, ds ++ [d2], ⟨⟨_, _, _, _, _, _, _, rfl⟩, cas_app hall (cas_cons hc cas_nil), by rw [List.length_append]; show ds.length + 1 ≤ 17 + (i + 1); omega⟩, c7⟩
    rintro σ' v ds H7 ⟨⟨o7, o8, o9, o10, o11, o12, o13, rfl⟩, hall, hln⟩ c7
    have hln : ds.length ≤ 22 := hln
    refine cl_for (ws := [.int 10, .int 11]) k3 c7 (fun B' e => ed_lst (eds_cons ed_int (eds_cons ed_int eds_nil))) (fun i σ' v ds => (∃ o7 o8 o9 o10 o11 o12 o13, σ' = [some (.ref a), some (.int (n : Nat)), some vr, some (.ref p), some vm, some vpl, some v, o7, o8, o9, o10, o11, o12, o13, none]) ∧ Cas ds ∧ ds.length ≤ 22 + i) ⟨⟨_, _, _, _, _, _, _, rfl⟩, hall, by omega⟩ ?_ ?_
    · rintro i w d σ' v ds Bq H'' hi eq hw ⟨⟨o7, o8, o9, o10, o11, o12, o13, rfl⟩, hall, hln⟩ c
      have hi' : i < 2 := (List.getElem?_eq_some_iff.mp hi).1
      obtain ⟨m, rfl, m0, m1⟩ : ∃ m : Int, d = .int m ∧ 2 ≤ m ∧ m ≤ 11 := by
        have hx := List.mem_of_getElem? hi
        simp only [List.mem_cons, List.mem_nil_iff, or_false] at hx
        rcases hx with rfl | rfl
        · exact ⟨10, rfl, by decide, by decide⟩
        · exact ⟨11, rfl, by decide, by decide⟩
      have hlen : (List.replicate m.toNat [PyData.tuple [.str "word", .str "a"]]).flatten.length = m.toNat := by
        exact rep_len _ _
      have hsw : SW 13 (.tuple ((List.replicate m.toNat [PyData.tuple [.str "word", .str "a"]]).flatten ++ [.tuple [.str "foot"]])) := (sw_tup (n := 2) (by rw [List.length_append, hlen]; show m.toNat + 1 ≤ 1000; omega) fun x hx => by
        rcases List.mem_append.mp hx with hx | hx
        · obtain ⟨l, hl, hx⟩ := List.mem_flatten.mp hx
          rw [(List.mem_replicate.mp hl).2] at hx
          rw [List.mem_singleton.mp hx]
          exact sw_t (sws_cons (sw_str (by decide +kernel)) (sws_cons (sw_str (by decide +kernel)) sws_nil))
        · rw [List.mem_singleton.mp hx]
          exact sw_t (sws_cons (sw_str (by decide +kernel)) sws_nil)).le (by decide)
      refine cl_app (Cs := Case) k3 c rfl (fun B' e => (ed_tup (eds_cons (ed_var rfl (.int (n : Nat))) (eds_cons (ed_tup (eds_cons (ed_tup (eds_cons ed_int (eds_cons (ed_tup (eds_cons ed_str (eds_cons (ed_op (ed_op (ed_tup (eds_cons (ed_tup (eds_cons ed_str (eds_cons ed_str eds_nil))) eds_nil)) (ed_var rfl (hw.up e)) (rd_rep (n := m) (ds := [.tuple [.str "word", .str "a"]]) (fun z => nomatch z) m0 (by omega) (by show 1 ≤ 1000; decide))) (ed_tup (eds_cons (ed_tup (eds_cons ed_str eds_nil)) eds_nil)) (rd_addT (by rw [hlen]; show m.toNat + 1 ≤ 16777216; omega))) eds_nil))) eds_nil))) eds_nil)) eds_nil))).imp fun v B1 _ hv => ⟨_, hv, case_mk sm_int (sw_t (sws_cons (sw_t (sws_cons sw_int (sws_cons (sw_t (sws_cons (sw_str (by decide +kernel)) (sws_cons hsw sws_nil))) sws_nil))) sws_nil))⟩) (by omega) fun d2 H7 hc c7 => ?_
      exact ⟨v, ds ++ [d2], ⟨⟨_, _, _, _, _, _, _, rfl⟩, cas_app hall (cas_cons hc cas_nil), by rw [List.length_append]; show ds.length + 1 ≤ 22 + (i + 1); omega⟩, c7⟩
    rintro σ' v ds H7 ⟨⟨o7, o8, o9, o10, o11, o12, o13, rfl⟩, hall, hln⟩ c8
    have hln : ds.length ≤ 24 := hln
    refine cl_for (ws := [.tuple [.str "graft", .int (n : Nat), .tuple [.tuple [.str "foot"]]], .tuple [.str "graft", .int 0, .list [.tuple [.str "foot"]]], .tuple [.str "graft", .int 0], .tuple [.str "plain", .tuple [.str "foot"]], .tuple [.str "word", .str "a"], .tuple [.str "foot", .int 0], .list [.str "foot"], .tuple [.str "plain", .tuple [.tuple [.str "foot"], .tuple [.str "word", .int 1]]]]) k3 c8 (fun B' e => ed_lst (eds_cons (ed_tup (eds_cons ed_str (eds_cons (ed_var rfl (.int (n : Nat))) (eds_cons (ed_tup (eds_cons (ed_tup (eds_cons ed_str eds_nil)) eds_nil)) eds_nil)))) (eds_cons (ed_tup (eds_cons ed_str (eds_cons ed_int (eds_cons (ed_lst (eds_cons (ed_tup (eds_cons ed_str eds_nil)) eds_nil)) eds_nil)))) (eds_cons (ed_tup (eds_cons ed_str (eds_cons ed_int eds_nil))) (eds_cons (ed_tup (eds_cons ed_str (eds_cons (ed_tup (eds_cons ed_str eds_nil)) eds_nil))) (eds_cons (ed_tup (eds_cons ed_str (eds_cons ed_str eds_nil))) (eds_cons (ed_tup (eds_cons ed_str (eds_cons ed_int eds_nil))) (eds_cons (ed_lst (eds_cons ed_str eds_nil)) (eds_cons (ed_tup (eds_cons ed_str (eds_cons (ed_tup (eds_cons (ed_tup (eds_cons ed_str eds_nil)) (eds_cons (ed_tup (eds_cons ed_str (eds_cons ed_int eds_nil))) eds_nil))) eds_nil))) eds_nil))))))))) (fun i σ' v ds => (∃ o7 o8 o9 o10 o11 o12 o13, σ' = [some (.ref a), some (.int (n : Nat)), some vr, some (.ref p), some vm, some vpl, some v, o7, o8, o9, o10, o11, o12, o13, none]) ∧ Cas ds ∧ ds.length ≤ 24 + i) ⟨⟨_, _, _, _, _, _, _, rfl⟩, hall, by omega⟩ ?_ ?_
    · rintro i w d σ' v ds Bq H'' hi eq hw ⟨⟨o7, o8, o9, o10, o11, o12, o13, rfl⟩, hall, hln⟩ c
      have hi' : i < 8 := (List.getElem?_eq_some_iff.mp hi).1
      have hsd : SW 10 d := (show SWs 10 [.tuple [.str "graft", .int (n : Nat), .tuple [.tuple [.str "foot"]]], .tuple [.str "graft", .int 0, .list [.tuple [.str "foot"]]], .tuple [.str "graft", .int 0], .tuple [.str "plain", .tuple [.str "foot"]], .tuple [.str "word", .str "a"], .tuple [.str "foot", .int 0], .list [.str "foot"], .tuple [.str "plain", .tuple [.tuple [.str "foot"], .tuple [.str "word", .int 1]]]] from (sws_cons (sw_t (sws_cons (sw_str (by decide +kernel)) (sws_cons sw_int (sws_cons (sw_t (sws_cons (sw_t (sws_cons (sw_str (by decide +kernel)) sws_nil)) sws_nil)) sws_nil)))) (sws_cons (sw_t (sws_cons (sw_str (by decide +kernel)) (sws_cons sw_int (sws_cons (sw_l (sws_cons (sw_t (sws_cons (sw_str (by decide +kernel)) sws_nil)) sws_nil)) sws_nil)))) (sws_cons (sw_t (sws_cons (sw_str (by decide +kernel)) (sws_cons sw_int sws_nil))) (sws_cons (sw_t (sws_cons (sw_str (by decide +kernel)) (sws_cons (sw_t (sws_cons (sw_str (by decide +kernel)) sws_nil)) sws_nil))) (sws_cons (sw_t (sws_cons (sw_str (by decide +kernel)) (sws_cons (sw_str (by decide +kernel)) sws_nil))) (sws_cons (sw_t (sws_cons (sw_str (by decide +kernel)) (sws_cons sw_int sws_nil))) (sws_cons (sw_l (sws_cons (sw_str (by decide +kernel)) sws_nil)) (sws_cons (sw_t (sws_cons (sw_str (by decide +kernel)) (sws_cons (sw_t (sws_cons (sw_t (sws_cons (sw_str (by decide +kernel)) sws_nil)) (sws_cons (sw_t (sws_cons (sw_str (by decide +kernel)) (sws_cons sw_int sws_nil))) sws_nil))) sws_nil))) sws_nil))))))))) d (List.mem_of_getElem? hi)
      refine cl_app (Cs := Case) k3 c rfl (fun B' e => (ed_tup (eds_cons (ed_var rfl (.int (n : Nat))) (eds_cons (ed_tup (eds_cons (ed_tup (eds_cons ed_int (eds_cons (ed_var rfl (hw.up e)) eds_nil))) eds_nil)) eds_nil))).imp fun v B1 _ hv => ⟨_, hv, case_mk sm_int ((sw_t (sws_cons (sw_t (sws_cons sw_int (sws_cons hsd sws_nil))) sws_nil)).le (by decide))⟩) (by omega) fun d2 H7 hc c7 => ?_
      exact ⟨v, ds ++ [d2], ⟨⟨_, _, _, _, _, _, _, rfl⟩, cas_app hall (cas_cons hc cas_nil), by rw [List.length_append]; show ds.length + 1 ≤ 24 + (i + 1); omega⟩, c7⟩
    rintro σ' v ds H7 ⟨⟨o7, o8, o9, o10, o11, o12, o13, rfl⟩, hall, hln⟩ c9
    have hln : ds.length ≤ 32 := hln
    refine cl_add (es := [.tuple [.int (n : Nat), .tuple [.tuple [.int (n : Nat), .tuple [.str "plain", .tuple [.tuple [.str "word", .str "a"], .tuple [.str "foot"]]]]]], .tuple [.int (n : Nat), .tuple [.tuple [.bool true, .tuple [.str "plain", .tuple [.tuple [.str "word", .str "a"], .tuple [.str "foot"]]]]]], .tuple [.int (n : Nat), .tuple [.tuple [.str "plain", .tuple [.tuple [.str "word", .str "a"], .tuple [.str "foot"]]]]]]) k3 c9 rfl (fun B' e => ed_lst (eds_cons (ed_tup (eds_cons (ed_var rfl (.int (n : Nat))) (eds_cons (ed_tup (eds_cons (ed_tup (eds_cons (ed_var rfl (.int (n : Nat))) (eds_cons (ed_tup (eds_cons ed_str (eds_cons (ed_tup (eds_cons (ed_tup (eds_cons ed_str (eds_cons ed_str eds_nil))) (eds_cons (ed_tup (eds_cons ed_str eds_nil)) eds_nil))) eds_nil))) eds_nil))) eds_nil)) eds_nil))) (eds_cons (ed_tup (eds_cons (ed_var rfl (.int (n : Nat))) (eds_cons (ed_tup (eds_cons (ed_tup (eds_cons ed_bl (eds_cons (ed_tup (eds_cons ed_str (eds_cons (ed_tup (eds_cons (ed_tup (eds_cons ed_str (eds_cons ed_str eds_nil))) (eds_cons (ed_tup (eds_cons ed_str eds_nil)) eds_nil))) eds_nil))) eds_nil))) eds_nil)) eds_nil))) (eds_cons (ed_tup (eds_cons (ed_var rfl (.int (n : Nat))) (eds_cons (ed_tup (eds_cons (ed_op (ed_var rfl (hPl.up (e))) ed_int (rd_ixT atc_1)) eds_nil)) eds_nil))) eds_nil)))) (by show ds.length + 3 ≤ 1000; omega) fun v H8 c10 => ?_
    have cs8 : Cas [.tuple [.int (n : Nat), .tuple [.tuple [.int (n : Nat), .tuple [.str "plain", .tuple [.tuple [.str "word", .str "a"], .tuple [.str "foot"]]]]]], .tuple [.int (n : Nat), .tuple [.tuple [.bool true, .tuple [.str "plain", .tuple [.tuple [.str "word", .str "a"], .tuple [.str "foot"]]]]]], .tuple [.int (n : Nat), .tuple [.tuple [.str "plain", .tuple [.tuple [.str "word", .str "a"], .tuple [.str "foot"]]]]]] := (cas_cons (case_mk sm_int (sw_t (sws_cons (sw_t (sws_cons sw_int (sws_cons (sw_t (sws_cons (sw_str (by decide +kernel)) (sws_cons (sw_t (sws_cons (sw_t (sws_cons (sw_str (by decide +kernel)) (sws_cons (sw_str (by decide +kernel)) sws_nil))) (sws_cons (sw_t (sws_cons (sw_str (by decide +kernel)) sws_nil)) sws_nil))) sws_nil))) sws_nil))) sws_nil))) (cas_cons (case_mk sm_int (sw_t (sws_cons (sw_t (sws_cons sw_bool (sws_cons (sw_t (sws_cons (sw_str (by decide +kernel)) (sws_cons (sw_t (sws_cons (sw_t (sws_cons (sw_str (by decide +kernel)) (sws_cons (sw_str (by decide +kernel)) sws_nil))) (sws_cons (sw_t (sws_cons (sw_str (by decide +kernel)) sws_nil)) sws_nil))) sws_nil))) sws_nil))) sws_nil))) (cas_cons (case_mk sm_int (sw_t (sws_cons swPl1 sws_nil))) cas_nil)))
    have hall8 := cas_app hall cs8
    have shk : SeqAt.shaped (.str "kept") = true := (sm_str (n := 0) (by decide +kernel)).sh
    have takek : ∀ (σ : L2.St) B5 (m : Nat), σ[3]? = some (some (V.ref p)) → σ[1]? = some (some (V.int (n : Nat))) → EV (Fm.box p) (tCall (spTake K) [] E0 (tCons (tVar 3) (tCons (tVar 1) tNil))) σ B5 (SmV K (m + 1)) := fun σ B5 m h3 h1 => (ev_take h3 (ed_var h1 (.int (n : Nat))) (by omega) (by omega)).imp fun v B1 _ ⟨c, hc, _⟩ => ⟨.int c, by rw [hc]; exact .int c, sw_int⟩
    refine ⟨6, rfl, by decide, by decide, for_range (lo := 0) (n := 6) (fun i σ' H' => ∃ v ds, ((∃ o7 o8 o9 o10 o11 o12 o13, σ' = [some (.ref a), some (.int (n : Nat)), some vr, some (.ref p), some vm, some vpl, some v, o7, o8, o9, o10, o11, o12, o13, none]) ∧ Cas ds ∧ ds.length ≤ 35 + 2 * i) ∧ CL K p B3 H3 B3 v ds H') ⟨v, _, ⟨⟨_, _, _, _, _, _, _, rfl⟩, hall8, by rw [List.length_append]; show ds.length + 3 ≤ 35 + 2 * 0; omega⟩, c10⟩ (fun i σ' H' hi ⟨v, ds, ⟨⟨o7, o8, o9, o10, o11, o12, o13, ho⟩, hall, hln⟩, c⟩ => ?_) (fun σ' H' ⟨v, ds, ⟨⟨o7, o8, o9, o10, o11, o12, o13, ho⟩, hall, hln⟩, c⟩ => ?_)⟩
    · subst ho
      have hi6 : i < 6 := hi
      obtain ⟨fa, B', acc, rfl, hfa, s', k', hb, hd, ha, eq⟩ := c
      have evp : EVs (Fm.box p) (tCons (tCall (spTake K) [] E0 (tCons (tVar 3) (tCons (tVar 1) tNil))) (tCons (tCall (spTake K) [] E0 (tCons (tVar 3) (tCons (tVar 1) tNil))) tNil)) [some (.ref a), some (.int (n : Nat)), some vr, some (.ref p), some vm, some vpl, some (.ref fa), o7, o8, some (.int (0 + (i : Nat))), o10, o11, o12, o13, none] B' (SmVs K 1 2) := svs_cons (takek _ _ 0 rfl rfl) (svs_cons (takek _ _ 0 rfl rfl) svs_nil)
      dsimp only [gName, tSeq, tPar]
      refine evp B' (Ex.refl B') H' k' _ fun us B5 H5 s5 k5 ⟨es, hes, hlen2, hes5⟩ => ?_
      obtain ⟨x, y, rfl⟩ : ∃ x y, es = [x, y] := by
        match es, hlen2 with
        | [x, y], _ => exact ⟨x, y, rfl⟩
      obtain ⟨vx, vy, rfl, hx, hy⟩ := arg2 hes
      have sx : ∀ m : Nat, SW (m + 1) x := fun m => (hes5 x (by simp)).le (by omega)
      have sy : ∀ m : Nat, SW (m + 1) y := fun m => (hes5 y (by simp)).le (by omega)
      refine ⟨vx, vy, rfl, ?_⟩
      have c5 : CL K p B3 H3 B5 (.ref fa) ds H5 := ⟨fa, B5, acc, rfl, hfa, s'.trans s5, k5, s5.sep fa hb (by rw [hd]; exact fun z => nomatch z), s5.keep fa _ (cl_nfp k3 hfa) hd, ha.up s5.bb, Ex.refl B5⟩
      have eB5 : Ex B3 B5 := eq.trans s5.bb
      refine cl_app (Cs := Case) k3 c5 rfl (fun B' e => sv_case (n := 11) (ed_var rfl (.int (n : Nat))) sm_int (sv_tup (n := 10) (svs_cons (sv_tup (n := 9) (svs_cons (sv_of (ed_var rfl (hx.up e)) (sx _)) (svs_cons (sv_of (n := 9) (ed_tup (eds_cons ed_str (eds_cons (ed_var rfl (hy.up e)) (eds_cons (ed_tup (eds_cons (ed_tup (eds_cons ed_str eds_nil)) eds_nil)) eds_nil)))) (sw_t (sws_cons (sw_str (by decide +kernel)) (sws_cons (sy _) (sws_cons (sw_t (sws_cons (sw_t (sws_cons (sw_str (by decide +kernel)) sws_nil)) sws_nil)) sws_nil))))) svs_nil))) (svs_cons (sv_tup (n := 9) (svs_cons (sv_of (ed_var rfl (hy.up e)) (sy _)) (svs_cons (sv_tup (n := 8) (svs_cons (sv_of ed_str (sw_str (by decide +kernel))) (svs_cons (sv_tup (n := 7) (svs_cons (sv_of (ed_tup (eds_cons ed_str eds_nil)) (sw_t (sws_cons (sw_str (by decide +kernel)) sws_nil))) (svs_cons (sv_tup (n := 6) (svs_cons (sv_of ed_str (sw_str (by decide +kernel))) (svs_cons (takek _ _ 5 rfl rfl) (svs_cons (sv_of (ed_tup eds_nil) (sw_t sws_nil)) svs_nil)))) svs_nil))) svs_nil))) svs_nil))) svs_nil))) (by decide)) (by omega) fun d2 H7 hc2 c7 => ?_
      refine cl_app (Cs := Case) k3 c7 rfl (fun B' e => sv_case (ed_var rfl (.int (n : Nat))) sm_int (n := 14) ?_ (by decide)) (by rw [List.length_append]; show ds.length + 1 < 1000; omega) fun d3 H8 hc3 c8 => ?_
      · intro B6 e6 H6 j6 Q6 q6
        refine ⟨.ref p, rfl, vr, rfl, ?_⟩
        refine ev_take (K := K) (m := 4) (B := B') (p := p) (E := E0) (i := 3) rfl ed_int (by decide) (by decide) B6 e6 H6 j6 _ fun vc B7 H7 s7 j7 ⟨c, hc, c0, c1⟩ => ?_
        subst hc
        refine .inl ⟨2, c, rfl, rfl, (2 + c).toNat, by omega, p, vr, B7, .tuple rs, ?_, j7, hR.up (((eB5.trans e).trans e6).trans s7.bb), smD2, fun v' B8 H8 e8 s8 k8 g8 hs8 => q6 v' B8 H8 (s7.trans s8) k8 ⟨e8, g8, hs8⟩⟩
        show [V.ref p, vr, V.int (2 + c)] = [V.ref p, vr, V.int (((2 + c).toNat : Nat) : Int)]
        rw [show (((2 + c).toNat : Nat) : Int) = 2 + c by omega]
      · obtain ⟨f1, f2, f3, f4, f5, f6, f7, f8, f9, f10, f11⟩ := c8
        exact ⟨_, _, ⟨⟨_, _, _, _, _, _, _, rfl⟩, cas_app (cas_app hall (cas_cons hc2 cas_nil)) (cas_cons hc3 cas_nil), by rw [List.length_append, List.length_append]; show ds.length + 1 + 1 ≤ 35 + 2 * (i + 1); omega⟩, ⟨f1, f2, f3, f4, f5, f6, f7, f8, f9, f10, eB5.trans f11⟩⟩
    subst ho
    obtain ⟨B9, s9, k9, g9⟩ := cl_done k3 c (by omega)
    have a9 : At (Fm.box p) B3 H3 B9 H' := ⟨s9, k9⟩
    have e39 : Ex B3 B9 := s9.bb
    refine qd_for (K := K) a9 (ev_seqL (ed_var rfl g9)) (fun i σ' B' => ∃ o7 o8 o9 o10 o11 o12 o13, σ' = [some (.ref a), some (.int (n : Nat)), some vr, some (.ref p), some vm, some vpl, some v, o7, o8, o9, o10, o11, o12, o13, none]) (fun B1 _ => ⟨_, _, _, _, _, _, _, rfl⟩) ?_ ?_
    · rintro Bb i w d σ' B10 H10 eb hi hd e10 a10 ⟨o7, o8, o9, o10, o11, o12, o13, rfl⟩
      obtain ⟨k, r, rfl, smk, swr⟩ := hall d (List.mem_of_getElem? hi)
      obtain ⟨hds, hdc⟩ := due_sm smk swr.1
      have e310 : Ex B3 B10 := e39.trans (eb.trans e10)
      have i0 : ∀ (σ : L2.St) B11, σ[12]? = some (some w) → Ex B10 B11 → ED (Fm.box p) K (tOp (rIx K) (tVar 12) (tC (.int 0))) σ B11 k := fun σ B11 h e => ed_op (ed_var h (hd.up e)) ed_int (rd_ixT at2_0)
      have i1 : ∀ (σ : L2.St) B11, σ[12]? = some (some w) → Ex B10 B11 → ED (Fm.box p) K (tOp (rIx K) (tVar 12) (tC (.int 1))) σ B11 r := fun σ B11 h e => ed_op (ed_var h (hd.up e)) ed_int (rd_ixT at2_1)
      refine qv_asg (P := DD K (dueT k r)) a10 (ed_F (eds_cons (i0 _ _ rfl (Ex.refl B10)) (eds_cons (i1 _ _ rfl (Ex.refl B10)) eds_nil)) ⟨_, _, rfl, swr.1.le (by decide), swr.2⟩ rfl) fun vd B11 H11 e11 a11 h11 => ?_
      refine qv_when (b := false) a11 (et_is (et_cmp (ed_op (ed_F (z := dueT k r) (eds_cons (i0 _ _ rfl e11) (eds_cons (i1 _ _ rfl e11) eds_nil)) ⟨_, _, rfl, swr.1.le (by decide), swr.2⟩ rfl) (ed_var rfl h11) (rd_neD hds.sh hds.sh))) (by rw [eqv_refl _ hds.1]; rfl)) (fun h => nomatch h) (fun _ B12 H12 e12 a12 => ?_)
      have e1012 := e11.trans e12
      have e312 := e310.trans e1012
      refine sv_if (b := false) a12 ?_ (fun h => nomatch h) (fun _ B13 H13 e13 a13 => ⟨B13, e10.trans (e1012.trans e13), a13, _, _, _, _, _, _, _, rfl⟩)
      rcases hdc with hk | ⟨tag, d2, hdd, htl, htag⟩
      · have h11' : Dd K B12 vd (.tuple [.str "kept", k, r]) := by
          rw [hk] at h11
          exact Dd.up h11 e12
        refine et_is (et_and (b := true) (c := false) (et_is (et_cmp (ed_op (ed_op (ed_var rfl h11') ed_int (rd_ixT atc_0)) ed_str (rd_eqD shk shk))) (by rw [eqv_str]; simp)) fun _ => et_is (et_not (et_val (ed_F (z := .bool true) (eds_cons (ev_op (ev_var rfl upc_ins (upc_ins _ _ _ e312 hM)) (ev_make (eds_cons (i0 _ _ rfl e1012) (eds_cons (i1 _ _ rfl e1012) eds_nil)) hk (swr.1.le (by decide)) swr.2) upc_ins (rv_ownEq rfl shR smk.sh swr.1.sh)) (eds_cons (ed_op (ed_var rfl (hd.up e1012)) (mk _ _ rfl rfl ((e2.trans e3).trans e312)) (rd_eqD ?_ ?_)) eds_nil)) ⟨_, _, rfl⟩ ?_))) rfl) rfl
        · exact (sm_tup (n := 16) fun x hx => by
            simp only [List.mem_cons, List.mem_nil_iff, or_false] at hx
            rcases hx with rfl | rfl
            · exact smk.le (by decide)
            · exact swr.1).sh
        · exact (sm_tup (n := 16) fun x hx => by
            simp only [List.mem_cons, List.mem_nil_iff, or_false] at hx
            rcases hx with rfl | rfl
            · exact sm_int
            · exact smR.1.le (by decide)).sh
        · show PyData.bool ((PyData.eqv (.int (n : Nat)) k && PyData.eqv (.tuple rs) r) == PyData.eqv (.tuple [k, r]) (.tuple [.int (n : Nat), .tuple rs])) = .bool true
          rw [eqv_pair, PySem.W.eqv_comm k, PySem.W.eqv_comm r]
          simp
      · have h11' : Dd K B12 vd (.tuple [.str tag, d2]) := by
          rw [hdd] at h11
          exact Dd.up h11 e12
        exact et_is (et_and (b := false) (c := false) (et_is (et_cmp (ed_op (ed_op (ed_var rfl h11') ed_int (rd_ixT atc_0)) ed_str (rd_eqD (sm_str (n := 0) htl).sh shk))) (by rw [eqv_str, htag])) fun h => nomatch h) rfl
    · rintro σ' B10 H10 e10 a10 ⟨o7, o8, o9, o10, o11, o12, o13, rfl⟩
      exact q _

end
end K20

namespace K20
open PySem PySem.Spec PyProof.Rows L2 Evl Ex Dx
open PySem.PyData (strOk)

structure PFact (K : PySem.W.Frag) (CP : Addr) : Prop where
  cl : Cls K CP
  nk : NoAttr K CP "kinds"
  nr : NoAttr K CP "trees"
  ca : PySem.W.findIn K (.ref CP) "__class__" = some (some (.builtin "object.__class__"))
  sg : PySem.W.specialIn K (.builtin "object.__class__") "__get__" = some (some (.builtin "getset_descriptor.__get__"))
  tk : PySem.W.takesIn K (.builtin "object.__class__") = some true
  mo : PySem.W.mroIn K CP (.type "object") = some true
theorem pfact_mk {K : PySem.W.Frag} {CP : Addr} (pg : PySem.W.plainGet K CP Str.empty = true) (hd : PySem.W.hasDictIn K CP = true) (po : PySem.W.plainOver K CP = true) (sa : PySem.W.findIn K (.ref CP) "__setattr__" = some (some (.builtin "object.__setattr__")))
    (nk : PySem.W.findIn K (.ref CP) "kinds" = some none) (nr : PySem.W.findIn K (.ref CP) "trees" = some none) (ca : PySem.W.findIn K (.ref CP) "__class__" = some (some (.builtin "object.__class__"))) (sg : PySem.W.specialIn K (.builtin "object.__class__") "__get__" = some (some (.builtin "getset_descriptor.__get__")))
    (tk : PySem.W.takesIn K (.builtin "object.__class__") = some true) (mo : PySem.W.mroIn K CP (.type "object") = some true) : PFact K CP := ⟨⟨pg, hd, po, sa⟩, nk, nr, ca, sg, tk, mo⟩
structure EqFact (K : PySem.W.Frag) (CP : Addr) : Prop where
  ex : ∃ fE fd, PySem.W.findIn K (.ref CP) "__eq__" = some (some (.ref fE)) ∧ PySem.W.isFn K (.ref fE) = true ∧ Fun K "__eq__" "Trees.__eq__" s_Trees_eq fE fd
theorem eqfact_mk {K : PySem.W.Frag} {CP fE : Addr} {od1 an1 : Option Addr} {sl1 : Array (Option Value)} {oc1 dc1 kV1 pm1 cd1 ct1 : Value} (a1 : PySem.W.findIn K (.ref CP) "__eq__" = some (some (.ref fE))) (i1 : PySem.W.isFn K (.ref fE) = true)
    (l1 : K.lookup fE = some ⟨oc1, od1, .func (PySem.W.fnOf "__eq__" "Trees.__eq__" (defArgs s_Trees_eq) (defBody s_Trees_eq) (defScope s_Trees_eq) .none kV1 dc1 pm1 an1 cd1 ct1), sl1⟩) (c1 : PySem.W.codeIn K cd1 "Trees.__eq__" = true) (k1 : PySem.W.keepIn K (.ref fE) = true) : EqFact K CP := ⟨fE, _, a1, i1, fun_mk l1 c1 k1⟩
def pairTab (K : PySem.W.Frag) (c0 c1 c2 CP : Addr) : Bool := decide (PySem.W.exmOne K (.ref c0) (.ref c0) = some true) && (decide (PySem.W.exmOne K (.ref c1) (.ref c0) = some false) && (decide (PySem.W.exmOne K (.ref c1) (.ref c1) = some true) && (decide (PySem.W.exmOne K (.ref c2) (.ref c0) = some false) && (decide (PySem.W.exmOne K (.ref c2) (.ref c1) = some false) && (decide (PySem.W.exmOne K (.ref c2) (.ref c2) = some true) &&
  (decide (PySem.W.kitOne K (.ref CP) (.ref CP) = some true) && (decide (PySem.W.kitOne K (.type "tuple") (.ref CP) = some false) && PySem.W.notFirst K CP (.type "tuple"))))))))

theorem ok_side0 {P : Program} {w : World} {K : PySem.W.Frag} {mg : Str → Option Value} {base : Heap} {f : Addr} {fd : FuncData} (F : Fun K "_law_side_knot" "_law_side_knot" s_law_side_knot f fd) : FnOk P w K mg base CX0 3 f fd ["box", "kinds", "words", "deep"] (spSideX K 0) :=
  F.ok sc_law_side_knot (fun vs H Q E h => h.elim) fun cdv A outer s H vs Q E hr h => h.elim
theorem call_foot {P : Program} {w : World} {K : PySem.W.Frag} {mg : Str → Option Value} {base h : Heap} {f : Addr} (d : DFact K "_law_foot_knot" s_law_foot_knot f) (T : TC K mg) (X : K.In h) (G : h.Ns mainGlobals mg) (C_law_take : Callee P w K mg base "_law_take" 1 ["box", "many"] (spTake K)) (C_law_pick : Callee P w K mg base "_law_pick" 2 ["box", "some"] (spPick K)) (C_law_side_knot : Callee P w K mg base "_law_side_knot" 5 ["box", "kinds", "words", "deep"] (spSideX K 2)) : ∀ n : Nat, n ≤ 4 → Callee P w K mg base "_law_foot_knot" (n + 5) ["box", "kinds", "words", "deep"] (spFootX K n)
  | 0, _ => d.callee X G (fun fd F => F.ok sc_law_foot_knot (fun vs H Q E h => h.elim) fun cdv A outer s H vs Q E hr h => h.elim) (fun fd F => F.binds fun _ _ _ _ _ _ us hl => match us, hl with | [_, _, _, _], _ => rfl)
  | n + 1, hn => d.callee X G (fun fd F => ok_foot n (by omega) F T C_law_take C_law_pick C_law_side_knot (call_foot d T X G C_law_take C_law_pick C_law_side_knot n (by omega))) (fun fd F => F.binds fun _ _ _ _ _ _ us hl => match us, hl with | [_, _, _, _], _ => rfl)
theorem FnOk.mono {P : Program} {w : World} {K : PySem.W.Frag} {mg : Str → Option Value} {base : Heap} {f : Addr} {fd : FuncData} {CX : CXT} {k k' : Nat} {ps : List Str} {sp : Sp} (F : FnOk P w K mg base CX k f fd ps sp) (h : k ≤ k') : FnOk P w K mg base CX k' f fd ps sp :=
  ⟨F.len, fun A outer s H args us vs Q E hr => F.run A outer s H args us vs Q E (hr.mono h)⟩
theorem all_mk {l : PySem.W.OpenLaw} {w : World} {K : PySem.W.Frag} {h : Heap} {mg : Str → Option Value} {fa c0 c1 c2 G CP : Addr} {f_is_integer f_is_between f_is_word f_begins_knot f_knots_in f_all_knots f_graft_kinds f_many_words f_is_tree f_is_trees f_plain_knot f_plain_tree f_steps_of_trees f_kinds_behind f_endless_kind f_law_box f_law_take f_law_pick f_law_whole f_law_is_numbers f_law_is_due f_law_spoilt f_law_shuffled f_law_back_kind f_law_is_word f_law_side_knot f_law_foot_knot f_law_knots f_law_tree_steps f_law_is_good_tree f_law_forest f_law_wood f_law_told f_law_are_knots f_law_is_a_tree f_law_due f_law : Addr} {t_MOST_LETTERS t_MOST_KNOTS t_MOST_TREE_KINDS t_MOST_TREES : Tok} (X : K.In h) (N : h.Ns mainGlobals mg) (hfa : mg "law" = some (.ref fa))
    (e0 : XFact K "InvalidNumber" "value" "InvalidNumber.__init__" s_InvalidNumber_init c0)
    (e1 : XFact K "InvalidTrees" "value" "InvalidTrees.__init__" s_InvalidTrees_init c1)
    (e2 : XFact K "Endless" "kind" "Endless.__init__" s_Endless_init c2)
    (g : GFact K "GraftError" G)
    (z_len : PySem.W.nsIn K mainGlobals "len" = some none)
    (z_abs : PySem.W.nsIn K mainGlobals "abs" = some none)
    (z_int : PySem.W.nsIn K mainGlobals "int" = some none)
    (z_str : PySem.W.nsIn K mainGlobals "str" = some none)
    (z_bool : PySem.W.nsIn K mainGlobals "bool" = some none)
    (z_tuple : PySem.W.nsIn K mainGlobals "tuple" = some none)
    (z_list : PySem.W.nsIn K mainGlobals "list" = some none)
    (z_all : PySem.W.nsIn K mainGlobals "all" = some none)
    (z_isinstance : PySem.W.nsIn K mainGlobals "isinstance" = some none)
    (z_range : PySem.W.nsIn K mainGlobals "range" = some none)
    (z_reversed : PySem.W.nsIn K mainGlobals "reversed" = some none)
    (k_MOST_LETTERS : PySem.W.nsIn K mainGlobals "MOST_LETTERS" = some (some (.int 3 t_MOST_LETTERS)))
    (k_MOST_KNOTS : PySem.W.nsIn K mainGlobals "MOST_KNOTS" = some (some (.int 12 t_MOST_KNOTS)))
    (k_MOST_TREE_KINDS : PySem.W.nsIn K mainGlobals "MOST_TREE_KINDS" = some (some (.int 8 t_MOST_TREE_KINDS)))
    (k_MOST_TREES : PySem.W.nsIn K mainGlobals "MOST_TREES" = some (some (.int 9 t_MOST_TREES)))
    (pc : CFact K "Trees" "Trees.__init__" s_Trees_init CP)
    (pl : PFact K CP)
    (pe : EqFact K CP)
    (d_is_integer : DFact K "is_integer" s_is_integer f_is_integer)
    (d_is_between : DFact K "is_between" s_is_between f_is_between)
    (d_is_word : DFact K "is_word" s_is_word f_is_word)
    (d_begins_knot : DFact K "begins_knot" s_begins_knot f_begins_knot)
    (d_knots_in : DFact K "knots_in" s_knots_in f_knots_in)
    (d_all_knots : DFact K "all_knots" s_all_knots f_all_knots)
    (d_graft_kinds : DFact K "graft_kinds" s_graft_kinds f_graft_kinds)
    (d_many_words : DFact K "many_words" s_many_words f_many_words)
    (d_is_tree : DFact K "is_tree" s_is_tree f_is_tree)
    (d_is_trees : DFact K "is_trees" s_is_trees f_is_trees)
    (d_plain_knot : DFact K "plain_knot" s_plain_knot f_plain_knot)
    (d_plain_tree : DFact K "plain_tree" s_plain_tree f_plain_tree)
    (d_steps_of_trees : DFact K "steps_of_trees" s_steps_of_trees f_steps_of_trees)
    (d_kinds_behind : DFact K "kinds_behind" s_kinds_behind f_kinds_behind)
    (d_endless_kind : DFact K "endless_kind" s_endless_kind f_endless_kind)
    (d_law_box : DFact K "_law_box" s_law_box f_law_box)
    (d_law_take : DFact K "_law_take" s_law_take f_law_take)
    (d_law_pick : DFact K "_law_pick" s_law_pick f_law_pick)
    (d_law_whole : DFact K "_law_whole" s_law_whole f_law_whole)
    (d_law_is_numbers : DFact K "_law_is_numbers" s_law_is_numbers f_law_is_numbers)
    (d_law_is_due : DFact K "_law_is_due" s_law_is_due f_law_is_due)
    (d_law_spoilt : DFact K "_law_spoilt" s_law_spoilt f_law_spoilt)
    (d_law_shuffled : DFact K "_law_shuffled" s_law_shuffled f_law_shuffled)
    (d_law_back_kind : DFact K "_law_back_kind" s_law_back_kind f_law_back_kind)
    (d_law_is_word : DFact K "_law_is_word" s_law_is_word f_law_is_word)
    (d_law_side_knot : DFact K "_law_side_knot" s_law_side_knot f_law_side_knot)
    (d_law_foot_knot : DFact K "_law_foot_knot" s_law_foot_knot f_law_foot_knot)
    (d_law_knots : DFact K "_law_knots" s_law_knots f_law_knots)
    (d_law_tree_steps : DFact K "_law_tree_steps" s_law_tree_steps f_law_tree_steps)
    (d_law_is_good_tree : DFact K "_law_is_good_tree" s_law_is_good_tree f_law_is_good_tree)
    (d_law_forest : DFact K "_law_forest" s_law_forest f_law_forest)
    (d_law_wood : DFact K "_law_wood" s_law_wood f_law_wood)
    (d_law_told : DFact K "_law_told" s_law_told f_law_told)
    (d_law_are_knots : DFact K "_law_are_knots" s_law_are_knots f_law_are_knots)
    (d_law_is_a_tree : DFact K "_law_is_a_tree" s_law_is_a_tree f_law_is_a_tree)
    (d_law_due : DFact K "_law_due" s_law_due f_law_due)
    (d_law : DFact K "law" s_law f_law)
    (tb : pairTab K c0 c1 c2 CP = true) :
    ∃ fd : FuncData, (∀ (s : Shared) (v : Value), BindsTo s fd ⟨[v], []⟩ [("script", v)]) ∧ ∀ base : Heap, K.In base → base.Ns mainGlobals mg → FnOk l.prog w K mg base CX0 25 fa fd ["script"] (spLaw K) := by
  have e := hfa.symm.trans (PySem.W.mg_of X N d_law.a)
  cases e
  obtain ⟨fd, F⟩ := d_law.fn
  simp only [pairTab, Bool.and_eq_true, decide_eq_true_eq] at tb
  obtain ⟨q1, q2, q3, q4, q5, q6, q7, q8, q9⟩ := tb
  refine ⟨fd, fun s v => ?_, fun base hK hN => ?_⟩
  · obtain ⟨oc, od, kV, doc, pm, an, cdv, ct, osl, rfl, lk, hcd⟩ := F.ex
    exact .of_eq rfl
  · have gG : mg "GraftError" = some (.ref G) := PySem.W.mg_of X N g.a
    have TT : TC K mg :=
      { m_len := PySem.W.mg_none_of X N z_len,
        m_abs := PySem.W.mg_none_of X N z_abs,
        m_int := PySem.W.mg_none_of X N z_int,
        m_str := PySem.W.mg_none_of X N z_str,
        m_bool := PySem.W.mg_none_of X N z_bool,
        m_tuple := PySem.W.mg_none_of X N z_tuple,
        m_list := PySem.W.mg_none_of X N z_list,
        m_all := PySem.W.mg_none_of X N z_all,
        m_isinstance := PySem.W.mg_none_of X N z_isinstance,
        m_range := PySem.W.mg_none_of X N z_range,
        m_reversed := PySem.W.mg_none_of X N z_reversed,
        c_MOST_LETTERS := ⟨_, PySem.W.mg_of X N k_MOST_LETTERS⟩,
        c_MOST_KNOTS := ⟨_, PySem.W.mg_of X N k_MOST_KNOTS⟩,
        c_MOST_TREE_KINDS := ⟨_, PySem.W.mg_of X N k_MOST_TREE_KINDS⟩,
        c_MOST_TREES := ⟨_, PySem.W.mg_of X N k_MOST_TREES⟩ }
    have T : TP l.prog w K mg base c0 c1 c2 CP :=
      { toTC := TT,
        x_InvalidNumber := e0.at X N (fun f1 fd F => ok_InvalidNumber F gG g.rd g.gi e0.oc e0.no) (fun f1 fd F => F.binds fun _ _ _ _ _ _ us hl => match us, hl with | [_, _], _ => rfl),
        x_InvalidTrees := e1.at X N (fun f1 fd F => ok_InvalidTrees F gG g.rd g.gi e1.oc e1.no) (fun f1 fd F => F.binds fun _ _ _ _ _ _ us hl => match us, hl with | [_, _], _ => rfl),
        x_Endless := e2.at X N (fun f1 fd F => ok_Endless F gG g.rd g.gi e2.oc e2.no) (fun f1 fd F => F.binds fun _ _ _ _ _ _ us hl => match us, hl with | [_, _], _ => rfl),
        g_Trees := PySem.W.mg_of X N pc.a,
        cl := pl.cl,
        nk := pl.nk,
        nr := pl.nr,
        ca := pl.ca,
        sg := pl.sg,
        tk := pl.tk,
        mo := pl.mo,
        kt1 := q7,
        kt2 := q8,
        m00 := q1,
        m10 := q2,
        m11 := q3,
        m20 := q4,
        m21 := q5,
        m22 := q6 }
    have C1 : Callee l.prog w K mg base "is_integer" 1 ["value"] (spInt K) := d_is_integer.callee X N (fun fd F => ok_is_integer F TT.toTB) (fun fd F => F.binds fun _ _ _ _ _ _ us hl => match us, hl with | [_], _ => rfl)
    have C2 : Callee l.prog w K mg base "is_between" 2 ["value", "low", "high"] (spBetween K) := d_is_between.callee X N (fun fd F => ok_is_between F TT.toTB C1) (fun fd F => F.binds fun _ _ _ _ _ _ us hl => match us, hl with | [_, _, _], _ => rfl)
    have C3 : Callee l.prog w K mg base "is_word" 1 ["value"] (spF K pre1 fWord) := d_is_word.callee X N (fun fd F => ok_is_word F TT) (fun fd F => F.binds fun _ _ _ _ _ _ us hl => match us, hl with | [_], _ => rfl)
    have D1 : Callee l.prog w K mg base "begins_knot" 3 ["value", "kinds"] (spF K (fun ds => ∃ d n, ds = [d, .int n] ∧ Sm 60 d) fBg) := d_begins_knot.callee X N (fun fd F => ok_begins_knot F TT C2 C3) (fun fd F => F.binds fun _ _ _ _ _ _ us hl => match us, hl with | [_, _], _ => rfl)
    have D2 : Callee l.prog w K mg base "knots_in" 1 ["knot"] (spF K preKn fKids) := d_knots_in.callee X N (fun fd F => ok_knots_in F TT) (fun fd F => F.binds fun _ _ _ _ _ _ us hl => match us, hl with | [_], _ => rfl)
    have D3 : Callee l.prog w K mg base "all_knots" 2 ["knot"] (spF K preA fAll) := d_all_knots.callee X N (fun fd F => ok_all_knots F TT D2) (fun fd F => F.binds fun _ _ _ _ _ _ us hl => match us, hl with | [_], _ => rfl)
    have D4 : Callee l.prog w K mg base "graft_kinds" 3 ["knot"] (spF K preA fGk) := d_graft_kinds.callee X N (fun fd F => ok_graft_kinds F TT D3) (fun fd F => F.binds fun _ _ _ _ _ _ us hl => match us, hl with | [_], _ => rfl)
    have D5 : Callee l.prog w K mg base "many_words" 3 ["knot"] (spF K preA fMw) := d_many_words.callee X N (fun fd F => ok_many_words F TT D3) (fun fd F => F.binds fun _ _ _ _ _ _ us hl => match us, hl with | [_], _ => rfl)
    have D6 : Callee l.prog w K mg base "is_tree" 4 ["value", "kinds"] (spF K preT fTree) := d_is_tree.callee X N (fun fd F => ok_is_tree F TT C2 D1 D2) (fun fd F => F.binds fun _ _ _ _ _ _ us hl => match us, hl with | [_, _], _ => rfl)
    have D7 : Callee l.prog w K mg base "is_trees" 5 ["value", "kinds"] (spF K preT fTrees) := d_is_trees.callee X N (fun fd F => ok_is_trees F TT D6) (fun fd F => F.binds fun _ _ _ _ _ _ us hl => match us, hl with | [_, _], _ => rfl)
    have D8 : Callee l.prog w K mg base "plain_knot" 20 ["knot"] (spF K (preP 19) fId) := call_plain_knot d_plain_knot TT X N 19
    have D9 : Callee l.prog w K mg base "plain_tree" 21 ["tree"] (spF K prePT fId) := d_plain_tree.callee X N (fun fd F => ok_plain_tree F TT D8) (fun fd F => F.binds fun _ _ _ _ _ _ us hl => match us, hl with | [_], _ => rfl)
    have C6 : Callee l.prog w K mg base "steps_of_trees" 4 ["kinds", "trees"] (spF K preS fSteps) := d_steps_of_trees.callee X N (fun fd F => ok_steps_of_trees F TT D4 D5) (fun fd F => F.binds fun _ _ _ _ _ _ us hl => match us, hl with | [_, _], _ => rfl)
    have C7 : Callee l.prog w K mg base "kinds_behind" 1 ["steps", "kind"] (spKB K) := d_kinds_behind.callee X N (fun fd F => ok_kinds_behind F TT) (fun fd F => F.binds fun _ _ _ _ _ _ us hl => match us, hl with | [_, _], _ => rfl)
    have C8 : Callee l.prog w K mg base "endless_kind" 2 ["steps"] (spEK K) := d_endless_kind.callee X N (fun fd F => ok_endless_kind F TT C7) (fun fd F => F.binds fun _ _ _ _ _ _ us hl => match us, hl with | [_], _ => rfl)
    have C9 : Callee l.prog w K mg base "_law_box" 1 ["script", "k"] (spBoxN K) := d_law_box.callee X N (fun fd F => ok_box F TT.toTB) (fun fd F => F.binds fun _ _ _ _ _ _ us hl => match us, hl with | [_, _], _ => rfl)
    have C10 : Callee l.prog w K mg base "_law_take" 1 ["box", "many"] (spTake K) := d_law_take.callee X N (fun fd F => ok_take F TT.toTB) (fun fd F => F.binds fun _ _ _ _ _ _ us hl => match us, hl with | [_, _], _ => rfl)
    have C11 : Callee l.prog w K mg base "_law_pick" 2 ["box", "some"] (spPick K) := d_law_pick.callee X N (fun fd F => ok_pick F TT.toTB C10) (fun fd F => F.binds fun _ _ _ _ _ _ us hl => match us, hl with | [_, _], _ => rfl)
    have C12 : Callee l.prog w K mg base "_law_whole" 1 ["value"] (spInt K) := d_law_whole.callee X N (fun fd F => ok_law_whole F TT) (fun fd F => F.binds fun _ _ _ _ _ _ us hl => match us, hl with | [_], _ => rfl)
    have C13 : Callee l.prog w K mg base "_law_is_numbers" 2 ["value", "many"] (spF K (fun ds => ∃ d n, ds = [d, .int n] ∧ Sm 60 d) fNums) := d_law_is_numbers.callee X N (fun fd F => ok_law_is_numbers F TT C12) (fun fd F => F.binds fun _ _ _ _ _ _ us hl => match us, hl with | [_, _], _ => rfl)
    have C14 : Callee l.prog w K mg base "_law_is_due" 1 ["told", "due"] (spF K (fun ds => ∃ a b, ds = [.bool a, .bool b]) fIs) := d_law_is_due.callee X N (fun fd F => ok_law_is_due F TT) (fun fd F => F.binds fun _ _ _ _ _ _ us hl => match us, hl with | [_, _], _ => rfl)
    have C15 : Callee l.prog w K mg base "_law_is_word" 1 ["value"] (spF K (fun ds => ∃ d, ds = [d] ∧ Sm 60 d) fWord) := d_law_is_word.callee X N (fun fd F => ok_law_is_word F TT) (fun fd F => F.binds fun _ _ _ _ _ _ us hl => match us, hl with | [_], _ => rfl)
    have C18 : Callee l.prog w K mg base "_law_back_kind" 1 ["steps", "kinds"] (spF K preBack fBack) := d_law_back_kind.callee X N (fun fd F => ok_law_back_kind F TT) (fun fd F => F.binds fun _ _ _ _ _ _ us hl => match us, hl with | [_, _], _ => rfl)
    have C23 : Callee l.prog w K mg base "_law_shuffled" 2 ["box", "some"] (spShuf K) := d_law_shuffled.callee X N (fun fd F => ok_shuffled F TT C10) (fun fd F => F.binds fun _ _ _ _ _ _ us hl => match us, hl with | [_, _], _ => rfl)
    have C22 : Callee l.prog w K mg base "_law_spoilt" 9 ["box", "value", "deep"] (spSpoilU K 12) := d_law_spoilt.callee X N (fun fd F => FnOk_ex fun n hn => (ok_spoiltS n 12 F TT C10 C11 C12 (fun k hk => call_spoilt d_law_spoilt TT X N C10 C11 C12 n k (by omega) hk) (by omega) (by decide)).mono (by omega)) (fun fd F => F.binds fun _ _ _ _ _ _ us hl => match us, hl with | [_, _, _], _ => rfl)
    have E0 : Callee l.prog w K mg base "_law_side_knot" 3 ["box", "kinds", "words", "deep"] (spSideX K 0) := d_law_side_knot.callee X N (fun fd F => ok_side0 F) (fun fd F => F.binds fun _ _ _ _ _ _ us hl => match us, hl with | [_, _, _, _], _ => rfl)
    have E1 : Callee l.prog w K mg base "_law_side_knot" 4 ["box", "kinds", "words", "deep"] (spSideX K 1) := d_law_side_knot.callee X N (fun fd F => ok_side 0 (by decide) F TT C10 C11 E0) (fun fd F => F.binds fun _ _ _ _ _ _ us hl => match us, hl with | [_, _, _, _], _ => rfl)
    have E2 : Callee l.prog w K mg base "_law_side_knot" 5 ["box", "kinds", "words", "deep"] (spSideX K 2) := d_law_side_knot.callee X N (fun fd F => ok_side 1 (by decide) F TT C10 C11 E1) (fun fd F => F.binds fun _ _ _ _ _ _ us hl => match us, hl with | [_, _, _, _], _ => rfl)
    have E3 : Callee l.prog w K mg base "_law_foot_knot" 9 ["box", "kinds", "words", "deep"] (spFootU K) := d_law_foot_knot.callee X N (fun fd F => FnOk_ex fun h hh => (ok_foot h hh F TT C10 C11 E2 (call_foot d_law_foot_knot TT X N C10 C11 E2 h (by omega))).mono (by omega)) (fun fd F => F.binds fun _ _ _ _ _ _ us hl => match us, hl with | [_, _, _, _], _ => rfl)
    have D10 : Callee l.prog w K mg base "_law_knots" 20 ["knot"] (spF K (preLK 19) fAll) := call_law_knots d_law_knots TT X N 19
    have D11 : Callee l.prog w K mg base "_law_tree_steps" 21 ["trees"] (spF K preTs fTs) := d_law_tree_steps.callee X N (fun fd F => ok_law_tree_steps F TT D10) (fun fd F => F.binds fun _ _ _ _ _ _ us hl => match us, hl with | [_], _ => rfl)
    have D12 : Callee l.prog w K mg base "_law_is_good_tree" 21 ["tree"] (spF K preGood fGood) := d_law_is_good_tree.callee X N (fun fd F => ok_law_is_good_tree F TT D10) (fun fd F => F.binds fun _ _ _ _ _ _ us hl => match us, hl with | [_], _ => rfl)
    have D13 : Callee l.prog w K mg base "_law_are_knots" 3 ["value", "kinds"] (spF K (fun ds => ∃ d n, ds = [d, .int n] ∧ Sm 50 d ∧ Wi d) fKs) := d_law_are_knots.callee X N (fun fd F => ok_law_are_knots F TT C15 C13) (fun fd F => F.binds fun _ _ _ _ _ _ us hl => match us, hl with | [_, _], _ => rfl)
    have D14 : Callee l.prog w K mg base "_law_is_a_tree" 22 ["value", "kinds"] (spF K preIT fTree) := d_law_is_a_tree.callee X N (fun fd F => ok_law_is_a_tree F TT C13 D13 D12 D10) (fun fd F => F.binds fun _ _ _ _ _ _ us hl => match us, hl with | [_, _], _ => rfl)
    have C19 : Callee l.prog w K mg base "_law_due" 23 ["kinds", "trees"] (spF K preDue fDueT) := d_law_due.callee X N (fun fd F => ok_law_due F TT C12 D14 D11 C18) (fun fd F => F.binds fun _ _ _ _ _ _ us hl => match us, hl with | [_, _], _ => rfl)
    have C24 : Callee l.prog w K mg base "_law_forest" 22 ["script", "most"] (spGram K) := d_law_forest.callee X N (fun fd F => ok_forest F TT C9 C10 C11 E3 D12 D10 D11 C18 C23) (fun fd F => F.binds fun _ _ _ _ _ _ us hl => match us, hl with | [_, _], _ => rfl)
    obtain ⟨fI, fdI, M, FI⟩ := pc.made
    have bP : L2.Binds K fdI ["self", "kinds", "trees"] [] := FI.binds fun _ _ _ _ _ _ us hl => match us, hl with | [_, _, _], _ => rfl
    have GP : FnOk l.prog w K mg base (L2.CX l.prog w) 22 fI fdI ["self", "kinds", "trees"] (spPairs K CP c0 c1 c2) := ok_pairs FI T C2 D7 C8 C6 D9
    obtain ⟨fE, fdE, hsE, hfE, FE⟩ := pe.ex
    have GE : FnOk l.prog w K mg base CX0 1 fE fdE ["self", "other"] (spEq K CP) := ok_eq FE T
    have bE : L2.Binds K fdE ["self", "other"] [] := FE.binds fun _ _ _ _ _ _ us hl => match us, hl with | [_, _], _ => rfl
    have C25 : Callee l.prog w K mg base "_law_wood" 24 ["forest"] (spMade K CP) := d_law_wood.callee X N (fun fd F => ok_law_wood F T M GP bP) (fun fd F => F.binds fun _ _ _ _ _ _ us hl => match us, hl with | [_], _ => rfl)
    have C26 : Callee l.prog w K mg base "_law_told" 24 ["kinds", "trees"] (spF K preDue fDueT) := d_law_told.callee X N (fun fd F => ok_law_told F T M GP bP) (fun fd F => F.binds fun _ _ _ _ _ _ us hl => match us, hl with | [_, _], _ => rfl)
    exact ok_law F T C24 C9 C10 C25 C22 C19 C26 C14 M GP bP GE bE hsE hfE q9
theorem walk {l : PySem.W.OpenLaw} {q : Program} {loose : List Str} {XP : (Str → Option Value) → Heap → Prop} {YP : World → Heap → Prop} {d : DefRec} {K : Params → PySem.W.Frag} (hn : l.most = some 63) (hdf : d.params.defaults = [])
    (hY : ∀ (w : World) (h : Heap), YP w h → (K w.params).In h)
    (F : ∀ (w : World) (mg : Str → Option Value) (fa : Addr) (h : Heap), (K w.params).In h → h.Ns mainGlobals mg → mg d.name = some (.ref fa) →
      ∃ fd : FuncData, (∀ (s : Shared) (u : Value), BindsTo s fd ⟨[u], []⟩ [("script", u)]) ∧ ∀ base : Heap, (K w.params).In base → base.Ns mainGlobals mg → FnOk l.prog w (K w.params) mg base CX0 25 fa fd ["script"] (spLaw (K w.params))) :
    PySem.W.WalkO q loose XP YP l.row.toRowW d [] (fun f vs => PySem.call f vs) :=
  L2.walk_of (n := 63) (k := 25) (x := "script") (CX := fun _ => CX0) (sp := fun w => spLaw (K w.params)) hn (by decide) hdf ⟨rfl, by decide, by decide⟩ hY F (fun _ _ a ns hl _ hS => ⟨a, ns, rfl, hS, hl, fun _ => rfl⟩) fun _ _ _ _ _ z => z
end K20

open PySem PySem.W PyProof.Rows Dx in
set_option maxRecDepth 100000 in
set_option maxHeartbeats 0 in
theorem PySem.Challenge.cw_treestacks_k20_trees_holds : PySem.Challenge.rw_treestacks_k20_trees.Holds := by
  w_on; o_law; k_head; (case hw => w_witness2)
  k_fill
  refine K20.walk (l := PySem.Challenge.rw_treestacks_k20_trees) rfl rfl (fun w h Y => PySem.W.kIn_of Y) ?F
  case F =>
    intro w mg fa h KX G hmg
    refine' K20.all_mk KX G hmg ?e0 ?e1 ?e2 ?g ?z_len ?z_abs ?z_int ?z_str ?z_bool ?z_tuple ?z_list ?z_all ?z_isinstance ?z_range ?z_reversed ?k_MOST_LETTERS ?k_MOST_KNOTS ?k_MOST_TREE_KINDS ?k_MOST_TREES ?pc ?pl ?pe ?d_is_integer ?d_is_between ?d_is_word ?d_begins_knot ?d_knots_in ?d_all_knots ?d_graft_kinds ?d_many_words ?d_is_tree ?d_is_trees ?d_plain_knot ?d_plain_tree ?d_steps_of_trees ?d_kinds_behind ?d_endless_kind ?d_law_box ?d_law_take ?d_law_pick ?d_law_whole ?d_law_is_numbers ?d_law_is_due ?d_law_spoilt ?d_law_shuffled ?d_law_back_kind ?d_law_is_word ?d_law_side_knot ?d_law_foot_knot ?d_law_knots ?d_law_tree_steps ?d_law_is_good_tree ?d_law_forest ?d_law_wood ?d_law_told ?d_law_are_knots ?d_law_is_a_tree ?d_law_due ?d_law ?tb
    (case e0 => (refine' xfact_mk ?aC ?xL ?hbm ?sa ?ga ?gg ?nb ?a1 ?t1 ?l1 ?c1 ?k1 ?kC ?eC ?tC ?hC ?iC ?ca ?sg ?tk ?mo; (case aC => k_is); (case xL => k_is); (case hbm => decide +kernel); (case sa => k_is); (case ga => k_is); (case gg => k_is); (case nb => k_is); (case a1 => k_is); (case t1 => k_is); (case l1 => k_is); (case c1 => k_is); (case k1 => k_is); (case kC => k_is); (case eC => k_is); (case tC => k_is); (case hC => k_is); (case iC => k_is); (case ca => k_is); (case sg => k_is); (case tk => k_is); (case mo => k_is)))
    (case e1 => (refine' xfact_mk ?aC ?xL ?hbm ?sa ?ga ?gg ?nb ?a1 ?t1 ?l1 ?c1 ?k1 ?kC ?eC ?tC ?hC ?iC ?ca ?sg ?tk ?mo; (case aC => k_is); (case xL => k_is); (case hbm => decide +kernel); (case sa => k_is); (case ga => k_is); (case gg => k_is); (case nb => k_is); (case a1 => k_is); (case t1 => k_is); (case l1 => k_is); (case c1 => k_is); (case k1 => k_is); (case kC => k_is); (case eC => k_is); (case tC => k_is); (case hC => k_is); (case iC => k_is); (case ca => k_is); (case sg => k_is); (case tk => k_is); (case mo => k_is)))
    (case e2 => (refine' xfact_mk ?aC ?xL ?hbm ?sa ?ga ?gg ?nb ?a1 ?t1 ?l1 ?c1 ?k1 ?kC ?eC ?tC ?hC ?iC ?ca ?sg ?tk ?mo; (case aC => k_is); (case xL => k_is); (case hbm => decide +kernel); (case sa => k_is); (case ga => k_is); (case gg => k_is); (case nb => k_is); (case a1 => k_is); (case t1 => k_is); (case l1 => k_is); (case c1 => k_is); (case k1 => k_is); (case kC => k_is); (case eC => k_is); (case tC => k_is); (case hC => k_is); (case iC => k_is); (case ca => k_is); (case sg => k_is); (case tk => k_is); (case mo => k_is)))
    (case g => (refine' gfact_mk ?a ?r1 ?r2 ?gi ?eC ?hC ?tC; (case a => k_is); (case r1 => k_is); (case r2 => k_is); (case gi => k_is); (case eC => k_is); (case hC => k_is); (case tC => k_is)))
    (case z_len => k_is)
    (case z_abs => k_is)
    (case z_int => k_is)
    (case z_str => k_is)
    (case z_bool => k_is)
    (case z_tuple => k_is)
    (case z_list => k_is)
    (case z_all => k_is)
    (case z_isinstance => k_is)
    (case z_range => k_is)
    (case z_reversed => k_is)
    (case k_MOST_LETTERS => k_is)
    (case k_MOST_KNOTS => k_is)
    (case k_MOST_TREE_KINDS => k_is)
    (case k_MOST_TREES => k_is)
    (case pc => (refine' cfact_mk ?a ?mk ?a1 ?i1 ?kc ?l1 ?c1 ?k1; (case a => k_is); (case mk => k_is); (case a1 => k_is); (case i1 => k_is); (case kc => k_is); (case l1 => k_is); (case c1 => k_is); (case k1 => k_is)))
    (case pl => (refine' K20.pfact_mk ?pg ?hd ?po ?sa ?nk ?nr ?ca ?sg ?tk ?mo; (case pg => k_is); (case hd => k_is); (case po => k_is); (case sa => k_is); (case nk => k_is); (case nr => k_is); (case ca => k_is); (case sg => k_is); (case tk => k_is); (case mo => k_is)))
    (case pe => (refine' K20.eqfact_mk ?a1 ?i1 ?l1 ?c1 ?k1; (case a1 => k_is); (case i1 => k_is); (case l1 => k_is); (case c1 => k_is); (case k1 => k_is)))
    (case d_is_integer => (refine' dfact_mk ?a ?l1 ?c1 ?k1; (case a => k_is); (case l1 => k_is); (case c1 => k_is); (case k1 => k_is)))
    (case d_is_between => (refine' dfact_mk ?a ?l1 ?c1 ?k1; (case a => k_is); (case l1 => k_is); (case c1 => k_is); (case k1 => k_is)))
    (case d_is_word => (refine' dfact_mk ?a ?l1 ?c1 ?k1; (case a => k_is); (case l1 => k_is); (case c1 => k_is); (case k1 => k_is)))
    (case d_begins_knot => (refine' dfact_mk ?a ?l1 ?c1 ?k1; (case a => k_is); (case l1 => k_is); (case c1 => k_is); (case k1 => k_is)))
    (case d_knots_in => (refine' dfact_mk ?a ?l1 ?c1 ?k1; (case a => k_is); (case l1 => k_is); (case c1 => k_is); (case k1 => k_is)))
    (case d_all_knots => (refine' dfact_mk ?a ?l1 ?c1 ?k1; (case a => k_is); (case l1 => k_is); (case c1 => k_is); (case k1 => k_is)))
    (case d_graft_kinds => (refine' dfact_mk ?a ?l1 ?c1 ?k1; (case a => k_is); (case l1 => k_is); (case c1 => k_is); (case k1 => k_is)))
    (case d_many_words => (refine' dfact_mk ?a ?l1 ?c1 ?k1; (case a => k_is); (case l1 => k_is); (case c1 => k_is); (case k1 => k_is)))
    (case d_is_tree => (refine' dfact_mk ?a ?l1 ?c1 ?k1; (case a => k_is); (case l1 => k_is); (case c1 => k_is); (case k1 => k_is)))
    (case d_is_trees => (refine' dfact_mk ?a ?l1 ?c1 ?k1; (case a => k_is); (case l1 => k_is); (case c1 => k_is); (case k1 => k_is)))
    (case d_plain_knot => (refine' dfact_mk ?a ?l1 ?c1 ?k1; (case a => k_is); (case l1 => k_is); (case c1 => k_is); (case k1 => k_is)))
    (case d_plain_tree => (refine' dfact_mk ?a ?l1 ?c1 ?k1; (case a => k_is); (case l1 => k_is); (case c1 => k_is); (case k1 => k_is)))
    (case d_steps_of_trees => (refine' dfact_mk ?a ?l1 ?c1 ?k1; (case a => k_is); (case l1 => k_is); (case c1 => k_is); (case k1 => k_is)))
    (case d_kinds_behind => (refine' dfact_mk ?a ?l1 ?c1 ?k1; (case a => k_is); (case l1 => k_is); (case c1 => k_is); (case k1 => k_is)))
    (case d_endless_kind => (refine' dfact_mk ?a ?l1 ?c1 ?k1; (case a => k_is); (case l1 => k_is); (case c1 => k_is); (case k1 => k_is)))
    (case d_law_box => (refine' dfact_mk ?a ?l1 ?c1 ?k1; (case a => k_is); (case l1 => k_is); (case c1 => k_is); (case k1 => k_is)))
    (case d_law_take => (refine' dfact_mk ?a ?l1 ?c1 ?k1; (case a => k_is); (case l1 => k_is); (case c1 => k_is); (case k1 => k_is)))
    (case d_law_pick => (refine' dfact_mk ?a ?l1 ?c1 ?k1; (case a => k_is); (case l1 => k_is); (case c1 => k_is); (case k1 => k_is)))
    (case d_law_whole => (refine' dfact_mk ?a ?l1 ?c1 ?k1; (case a => k_is); (case l1 => k_is); (case c1 => k_is); (case k1 => k_is)))
    (case d_law_is_numbers => (refine' dfact_mk ?a ?l1 ?c1 ?k1; (case a => k_is); (case l1 => k_is); (case c1 => k_is); (case k1 => k_is)))
    (case d_law_is_due => (refine' dfact_mk ?a ?l1 ?c1 ?k1; (case a => k_is); (case l1 => k_is); (case c1 => k_is); (case k1 => k_is)))
    (case d_law_spoilt => (refine' dfact_mk ?a ?l1 ?c1 ?k1; (case a => k_is); (case l1 => k_is); (case c1 => k_is); (case k1 => k_is)))
    (case d_law_shuffled => (refine' dfact_mk ?a ?l1 ?c1 ?k1; (case a => k_is); (case l1 => k_is); (case c1 => k_is); (case k1 => k_is)))
    (case d_law_back_kind => (refine' dfact_mk ?a ?l1 ?c1 ?k1; (case a => k_is); (case l1 => k_is); (case c1 => k_is); (case k1 => k_is)))
    (case d_law_is_word => (refine' dfact_mk ?a ?l1 ?c1 ?k1; (case a => k_is); (case l1 => k_is); (case c1 => k_is); (case k1 => k_is)))
    (case d_law_side_knot => (refine' dfact_mk ?a ?l1 ?c1 ?k1; (case a => k_is); (case l1 => k_is); (case c1 => k_is); (case k1 => k_is)))
    (case d_law_foot_knot => (refine' dfact_mk ?a ?l1 ?c1 ?k1; (case a => k_is); (case l1 => k_is); (case c1 => k_is); (case k1 => k_is)))
    (case d_law_knots => (refine' dfact_mk ?a ?l1 ?c1 ?k1; (case a => k_is); (case l1 => k_is); (case c1 => k_is); (case k1 => k_is)))
    (case d_law_tree_steps => (refine' dfact_mk ?a ?l1 ?c1 ?k1; (case a => k_is); (case l1 => k_is); (case c1 => k_is); (case k1 => k_is)))
    (case d_law_is_good_tree => (refine' dfact_mk ?a ?l1 ?c1 ?k1; (case a => k_is); (case l1 => k_is); (case c1 => k_is); (case k1 => k_is)))
    (case d_law_forest => (refine' dfact_mk ?a ?l1 ?c1 ?k1; (case a => k_is); (case l1 => k_is); (case c1 => k_is); (case k1 => k_is)))
    (case d_law_wood => (refine' dfact_mk ?a ?l1 ?c1 ?k1; (case a => k_is); (case l1 => k_is); (case c1 => k_is); (case k1 => k_is)))
    (case d_law_told => (refine' dfact_mk ?a ?l1 ?c1 ?k1; (case a => k_is); (case l1 => k_is); (case c1 => k_is); (case k1 => k_is)))
    (case d_law_are_knots => (refine' dfact_mk ?a ?l1 ?c1 ?k1; (case a => k_is); (case l1 => k_is); (case c1 => k_is); (case k1 => k_is)))
    (case d_law_is_a_tree => (refine' dfact_mk ?a ?l1 ?c1 ?k1; (case a => k_is); (case l1 => k_is); (case c1 => k_is); (case k1 => k_is)))
    (case d_law_due => (refine' dfact_mk ?a ?l1 ?c1 ?k1; (case a => k_is); (case l1 => k_is); (case c1 => k_is); (case k1 => k_is)))
    (case d_law => (refine' dfact_mk ?a ?l1 ?c1 ?k1; (case a => k_is); (case l1 => k_is); (case c1 => k_is); (case k1 => k_is)))
    (case tb => kernel_rfl)
